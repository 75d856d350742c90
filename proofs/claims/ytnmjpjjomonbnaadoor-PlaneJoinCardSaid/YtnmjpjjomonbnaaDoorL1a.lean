/-
  The walks of the laws PlaneRight, PlaneHas, PlaneMeets: each answers true, whatever it is given.
-/
import Derived.Test.YtnmjpjjomonbnaaDoorPlaneV
namespace Go.Proofs.YtnmjpjjomonbnaaDoor
set_option linter.unusedSimpArgs false
set_option linter.unusedVariables false
open Go.RowKit

theorem right_same (a b c d : Int) : rightB a b c d = rrightB a b c d := by
  unfold rightB rrightB reachB bothB btw inB
  rw [Bool.eq_iff_iff]
  simp
  omega

theorem box_right (a b c d : Int) (h : rrightB a b c d = true) : (-4194304 ≤ a ∧ a ≤ 4194304) ∧ (-4194304 ≤ b ∧ b ≤ 4194304) ∧ (-4194304 ≤ c ∧ c ≤ 4194304) ∧ (-4194304 ≤ d ∧ d ≤ 4194304) ∧ a ≤ c ∧ b ≤ d := by
  simp [rrightB, inB] at h
  omega
theorem has_same (a b c d x y : Int) : hasB a b c d x y = (rrightB a b c d && rhasB a b c d x y) := by
  unfold hasB
  rw [right_same]
  unfold rhasB btw
  rw [Bool.eq_iff_iff]
  simp
  omega
theorem meets_same (a b c d p q r s : Int) : meetsB a b c d p q r s = ((rrightB a b c d && rrightB p q r s) && rmeetsB a b c d p q r s) := by
  unfold meetsB
  rw [right_same, right_same]
  cases rrightB a b c d
  · simp
  cases rrightB p q r s
  · simp
  unfold rmeetsB
  rw [Bool.eq_iff_iff]
  simp
  omega
theorem inside_same (a b c d p q r s : Int) : insideB a b c d p q r s = (((rrightB a b c d && rrightB p q r s) && rhasB p q r s a b) && rhasB p q r s c d) := by
  unfold insideB
  rw [right_same, has_same, has_same]
  cases rrightB a b c d <;> cases rrightB p q r s <;> simp

set_option maxHeartbeats 400000 in
theorem planeRight_walk (a b c d : Int) (w : World) :
    Calls Tryd.prog 4 #[.agg #[.int .i64 a, .int .i64 b, .int .i64 c, .int .i64 d]] w fun e w' => e = .returned (.bool true) ∧ Below w.heap.size w w' := by
  have H : Hid (rightB a b c d = rrightB a b c d) := right_same a b c d
  go_enter Tryd.func4, Tryd.ntmps4
  go_wp2_with fail
  go_region_held3 (fun w' => Below (w.alloc (.cells #[.int .i64 a, .int .i64 b, .int .i64 c, .int .i64 d] 26)).heap.size (w.alloc (.cells #[.int .i64 a, .int .i64 b, .int .i64 c, .int .i64 d] 26)) w' ∧ ∀ b_1 o, b_1 < (w.alloc (.cells #[.int .i64 a, .int .i64 b, .int .i64 c, .int .i64 d] 26)).heap.size → w'.cell? ⟨b_1, o, none⟩ = (w.alloc (.cells #[.int .i64 a, .int .i64 b, .int .i64 c, .int .i64 d] 26)).cell? ⟨b_1, o, none⟩) (first | exact keep0 _ | exact keepB (by assumption) hb1 | assumption)
    (first
      | (go_at_call 14; refine (alive_any _).mono ?_; rintro e w1 ⟨rfl, hb1⟩)
      | (go_at_call 20; refine (right_any _ _ _ _ _).mono ?_; rintro e w1 ⟨rfl, hb1⟩)
      | (go_at_call 21; refine (rright_any _ _ _ _ _).mono ?_; rintro e w1 ⟨rfl, hb1⟩))
  go_wp2
  go_ret
  exact ⟨ret_bool (by rw [H.out]; simp), (by repeat (first | exact Below.refl _ _ | apply Ba | apply Bd | apply Bn | (refine Bt ?_ (by assumption)) | (refine Bs ?_ (by first | (simp; done) | (simp; omega)) _)))⟩

set_option maxHeartbeats 1000000 in
theorem planeHas_walk (a b c d x y : Int) (w : World) :
    Calls Tryd.prog 6 #[.agg #[.int .i64 a, .int .i64 b, .int .i64 c, .int .i64 d], .agg #[.int .i64 x, .int .i64 y]] w fun e w' => e = .returned (.bool true) ∧ Below w.heap.size w w' := by
  cases h : rrightB a b c d
  · have H : Hid (hasB a b c d x y = false) := by rw [Hid, has_same, h]; rfl
    go_enter Tryd.func6, Tryd.ntmps6
    go_wp2_with fail
    refine wp_region_held_drew (S := (fun w' => Below ((w.alloc (.cells #[.int .i64 a, .int .i64 b, .int .i64 c, .int .i64 d] 26)).alloc (.cells #[.int .i64 x, .int .i64 y] 23)).heap.size ((w.alloc (.cells #[.int .i64 a, .int .i64 b, .int .i64 c, .int .i64 d] 26)).alloc (.cells #[.int .i64 x, .int .i64 y] 23)) w' ∧ ∀ b_1 o, b_1 < ((w.alloc (.cells #[.int .i64 a, .int .i64 b, .int .i64 c, .int .i64 d] 26)).alloc (.cells #[.int .i64 x, .int .i64 y] 23)).heap.size → w'.cell? ⟨b_1, o, none⟩ = ((w.alloc (.cells #[.int .i64 a, .int .i64 b, .int .i64 c, .int .i64 d] 26)).alloc (.cells #[.int .i64 x, .int .i64 y] 23)).cell? ⟨b_1, o, none⟩)) (by kernel_rfl) (keep0 _) (fun hHeld => ?_)
    (refine wpAnyH_ready (rs := [0]) (by kernel_rfl) (by simp) ?_; refine AllReadyH.cons rfl (fun K hK => ?_) AllReadyH.nil; go_simp; refine (alive_any _).mono ?_; rintro e w1 ⟨rfl, hb1⟩; refine hK.out _ _ (keepB (by assumption) hb1) (fun hHeld => ?_); clear hK K); (try simp only [Act.put, List.getElem_toArray, List.getElem_cons_succ, List.getElem_cons_zero, List.setIfInBounds_toArray, List.set_cons_zero, List.set_cons_succ])
    (refine wpAnyH_take (i := 1) (v := ?_) rfl (by kernel_rfl) (by kernel_rfl) (by kernel_rfl) (fun _ _ _ h => h) (Or.inl ⟨by rfl, ?rt⟩) (by assumption) ?_; case rt => (intro w hSw; (try dsimp only at hSw); go_simp; (try with_reducible rfl))); (try simp only [Act.put, List.getElem_toArray, List.getElem_cons_succ, List.getElem_cons_zero, List.setIfInBounds_toArray, List.set_cons_zero, List.set_cons_succ])
    (refine wpAnyH_take (i := 2) (v := ?_) rfl (by kernel_rfl) (by kernel_rfl) (by kernel_rfl) (fun _ _ _ h => h) (Or.inl ⟨by rfl, ?rt⟩) (by assumption) ?_; case rt => (intro w hSw; (try dsimp only at hSw); go_simp; (try with_reducible rfl))); (try simp only [Act.put, List.getElem_toArray, List.getElem_cons_succ, List.getElem_cons_zero, List.setIfInBounds_toArray, List.set_cons_zero, List.set_cons_succ])
    (refine wpAnyH_take (i := 3) (v := ?_) rfl (by kernel_rfl) (by kernel_rfl) (by kernel_rfl) (fun _ _ _ h => h) (Or.inl ⟨by rfl, ?rt⟩) (by assumption) ?_; case rt => (intro w hSw; (try dsimp only at hSw); go_simp; (try with_reducible rfl))); (try simp only [Act.put, List.getElem_toArray, List.getElem_cons_succ, List.getElem_cons_zero, List.setIfInBounds_toArray, List.set_cons_zero, List.set_cons_succ])
    (refine wpAnyH_take (i := 5) (v := ?_) rfl (by kernel_rfl) (by kernel_rfl) (by kernel_rfl) (fun _ _ _ h => h) (Or.inl ⟨by rfl, ?rt⟩) (by assumption) ?_; case rt => (intro w hSw; (try dsimp only at hSw); go_simp; (try with_reducible rfl))); (try simp only [Act.put, List.getElem_toArray, List.getElem_cons_succ, List.getElem_cons_zero, List.setIfInBounds_toArray, List.set_cons_zero, List.set_cons_succ])
    (refine wpAnyH_ready (rs := [4]) (by kernel_rfl) (by simp) ?_; refine AllReadyH.cons rfl (fun K hK => ?_) AllReadyH.nil; go_simp; refine (has_any _ _ _ _ _ _ _).mono ?_; rintro e w1 ⟨rfl, hb1⟩; refine hK.out _ _ (keepB (by assumption) hb1) (fun hHeld => ?_); clear hK K); (try simp only [Act.put, List.getElem_toArray, List.getElem_cons_succ, List.getElem_cons_zero, List.setIfInBounds_toArray, List.set_cons_zero, List.set_cons_succ])
    (refine wpAnyH_ready (rs := [6]) (by kernel_rfl) (by simp) ?_; refine AllReadyH.cons rfl (fun K hK => ?_) AllReadyH.nil; go_simp; refine (bool_is h (rright_any _ _ _ _ _)).mono ?_; rintro e w1 ⟨rfl, hb1⟩; refine hK.out _ _ (keepB (by assumption) hb1) (fun hHeld => ?_); clear hK K); (try simp only [Act.put, List.getElem_toArray, List.getElem_cons_succ, List.getElem_cons_zero, List.setIfInBounds_toArray, List.set_cons_zero, List.set_cons_succ])
    (refine wpAnyH_take (i := 7) (v := ?_) rfl (by kernel_rfl) (by kernel_rfl) (by kernel_rfl) (fun _ _ _ h => h) (Or.inl ⟨by rfl, ?rt⟩) (by assumption) ?_; case rt => (intro w hSw; (try dsimp only at hSw); go_simp; (try with_reducible rfl))); (try simp only [Act.put, List.getElem_toArray, List.getElem_cons_succ, List.getElem_cons_zero, List.setIfInBounds_toArray, List.set_cons_zero, List.set_cons_succ])
    refine wpAnyH_take (i := 8) (v := undef) rfl (by kernel_rfl) (by kernel_rfl) (by kernel_rfl) (fun _ _ _ h => h) (Or.inr ⟨by rfl, rfl⟩) (by assumption) ?_; (try simp only [Act.put, List.getElem_toArray, List.getElem_cons_succ, List.getElem_cons_zero, List.setIfInBounds_toArray, List.set_cons_zero, List.set_cons_succ])
    refine wpAnyH_take (i := 9) (v := undef) rfl (by kernel_rfl) (by kernel_rfl) (by kernel_rfl) (fun _ _ _ h => h) (Or.inr ⟨by rfl, rfl⟩) (by assumption) ?_; (try simp only [Act.put, List.getElem_toArray, List.getElem_cons_succ, List.getElem_cons_zero, List.setIfInBounds_toArray, List.set_cons_zero, List.set_cons_succ])
    refine wpAnyH_take (i := 10) (v := undef) rfl (by kernel_rfl) (by kernel_rfl) (by kernel_rfl) (fun _ _ _ h => h) (Or.inr ⟨by rfl, rfl⟩) (by assumption) ?_; (try simp only [Act.put, List.getElem_toArray, List.getElem_cons_succ, List.getElem_cons_zero, List.setIfInBounds_toArray, List.set_cons_zero, List.set_cons_succ])
    (refine wpAnyH_take (i := 11) (v := ?_) rfl (by kernel_rfl) (by kernel_rfl) (by kernel_rfl) (fun _ _ _ h => h) (Or.inl ⟨by rfl, ?rt⟩) (by assumption) ?_; case rt => (intro w hSw; (try dsimp only at hSw); go_simp; (try with_reducible rfl))); (try simp only [Act.put, List.getElem_toArray, List.getElem_cons_succ, List.getElem_cons_zero, List.setIfInBounds_toArray, List.set_cons_zero, List.set_cons_succ])
    (refine wpAnyH_take (i := 12) (v := ?_) rfl (by kernel_rfl) (by kernel_rfl) (by kernel_rfl) (fun _ _ _ h => h) (Or.inl ⟨by rfl, ?rt⟩) (by assumption) ?_; case rt => (intro w hSw; (try dsimp only at hSw); go_simp; (try with_reducible rfl))); (try simp only [Act.put, List.getElem_toArray, List.getElem_cons_succ, List.getElem_cons_zero, List.setIfInBounds_toArray, List.set_cons_zero, List.set_cons_succ])
    (refine wpAnyH_take (i := 13) (v := ?_) rfl (by kernel_rfl) (by kernel_rfl) (by kernel_rfl) (fun _ _ _ h => h) (Or.inl ⟨by rfl, ?rt⟩) (by assumption) ?_; case rt => (intro w hSw; (try dsimp only at hSw); go_simp; (try with_reducible rfl))); (try simp only [Act.put, List.getElem_toArray, List.getElem_cons_succ, List.getElem_cons_zero, List.setIfInBounds_toArray, List.set_cons_zero, List.set_cons_succ])
    (refine wpAnyH_take (i := 14) (v := ?_) rfl (by kernel_rfl) (by kernel_rfl) (by kernel_rfl) (fun _ _ _ h => h) (Or.inl ⟨by rfl, ?rt⟩) (by assumption) ?_; case rt => (intro w hSw; (try dsimp only at hSw); go_simp; (try with_reducible rfl))); (try simp only [Act.put, List.getElem_toArray, List.getElem_cons_succ, List.getElem_cons_zero, List.setIfInBounds_toArray, List.set_cons_zero, List.set_cons_succ])
    refine wpAnyH_done (by kernel_rfl) ?_ _
    go_wp2
    go_ret
    exact ⟨ret_bool (by rw [H.out]; simp), (by repeat (first | exact Below.refl _ _ | apply Ba | apply Bd | apply Bn | (refine Bt ?_ (by assumption)) | (refine Bs ?_ (by first | (simp; done) | (simp; omega)) _)))⟩
  · have H : Hid (hasB a b c d x y = rhasB a b c d x y) := by rw [Hid, has_same, h]; simp
    go_enter Tryd.func6, Tryd.ntmps6
    go_wp2_with fail
    go_region_held3 (fun w' => Below ((w.alloc (.cells #[.int .i64 a, .int .i64 b, .int .i64 c, .int .i64 d] 26)).alloc (.cells #[.int .i64 x, .int .i64 y] 23)).heap.size ((w.alloc (.cells #[.int .i64 a, .int .i64 b, .int .i64 c, .int .i64 d] 26)).alloc (.cells #[.int .i64 x, .int .i64 y] 23)) w' ∧ ∀ b_1 o, b_1 < ((w.alloc (.cells #[.int .i64 a, .int .i64 b, .int .i64 c, .int .i64 d] 26)).alloc (.cells #[.int .i64 x, .int .i64 y] 23)).heap.size → w'.cell? ⟨b_1, o, none⟩ = ((w.alloc (.cells #[.int .i64 a, .int .i64 b, .int .i64 c, .int .i64 d] 26)).alloc (.cells #[.int .i64 x, .int .i64 y] 23)).cell? ⟨b_1, o, none⟩) (first | exact keep0 _ | exact keepB (by assumption) hb1 | assumption)
      (first
        | (go_at_call 14; refine (alive_any _).mono ?_; rintro e w1 ⟨rfl, hb1⟩)
        | (go_at_call 26; refine (has_any _ _ _ _ _ _ _).mono ?_; rintro e w1 ⟨rfl, hb1⟩)
        | (go_at_call 22; refine (rhas_any _ _ _ _ _ _ _).mono ?_; rintro e w1 ⟨rfl, hb1⟩)
        | (go_at_call 21; refine (bool_is h (rright_any _ _ _ _ _)).mono ?_; rintro e w1 ⟨rfl, hb1⟩))
    go_wp2
    go_ret
    exact ⟨ret_bool (by rw [H.out]; simp), (by repeat (first | exact Below.refl _ _ | apply Ba | apply Bd | apply Bn | (refine Bt ?_ (by assumption)) | (refine Bs ?_ (by first | (simp; done) | (simp; omega)) _)))⟩

set_option maxHeartbeats 1000000 in
theorem planeMeets_walk (a b c d p q r s : Int) (w : World) :
    Calls Tryd.prog 5 #[.agg #[.int .i64 a, .int .i64 b, .int .i64 c, .int .i64 d], .agg #[.int .i64 p, .int .i64 q, .int .i64 r, .int .i64 s]] w fun e w' => e = .returned (.bool true) ∧ Below w.heap.size w w' := by
  have H1 : Hid (meetsB a b c d p q r s = ((rrightB a b c d && rrightB p q r s) && rmeetsB a b c d p q r s)) := meets_same a b c d p q r s
  have H2 : Hid (insideB a b c d p q r s = (((rrightB a b c d && rrightB p q r s) && rhasB p q r s a b) && rhasB p q r s c d)) := inside_same a b c d p q r s
  cases h1 : rrightB a b c d <;> cases h2 : rrightB p q r s <;> cases h3 : rhasB p q r s a b
  all_goals
    go_enter Tryd.func5, Tryd.ntmps5
    go_wp2_with (first
        | (go_at_call 14; refine (alive_any _).mono ?_; rintro e w1 ⟨rfl, hb1⟩; obtain ⟨hc1, hf1⟩ := bcell hb1; have hz0 : w.heap.size < w1.heap.size := Bl hb1 (by first | assumption | (simp; done) | (simp; omega)); have hz1 : w.heap.size + 1 < w1.heap.size := Bl hb1 (by first | assumption | (simp; done) | (simp; omega)))
        | (go_at_call_of 21 (Value.agg #[.int .i64 a, .int .i64 b, .int .i64 c, .int .i64 d]); refine (bool_is h1 (rright_any _ _ _ _ _)).mono ?_; rintro e w1 ⟨rfl, hb1⟩; obtain ⟨hc1, hf1⟩ := bcell hb1; have hz0 : w.heap.size < w1.heap.size := Bl hb1 (by first | assumption | (simp; done) | (simp; omega)); have hz1 : w.heap.size + 1 < w1.heap.size := Bl hb1 (by first | assumption | (simp; done) | (simp; omega)))
        | (go_at_call_of 21 (Value.agg #[.int .i64 p, .int .i64 q, .int .i64 r, .int .i64 s]); refine (bool_is h2 (rright_any _ _ _ _ _)).mono ?_; rintro e w1 ⟨rfl, hb1⟩; obtain ⟨hc1, hf1⟩ := bcell hb1; have hz0 : w.heap.size < w1.heap.size := Bl hb1 (by first | assumption | (simp; done) | (simp; omega)); have hz1 : w.heap.size + 1 < w1.heap.size := Bl hb1 (by first | assumption | (simp; done) | (simp; omega)))
        | (go_at_call_of 22 (Value.agg #[.int .i64 a, .int .i64 b]); refine (bool_is h3 (rhas_any _ _ _ _ _ _ _)).mono ?_; rintro e w1 ⟨rfl, hb1⟩; obtain ⟨hc1, hf1⟩ := bcell hb1; have hz0 : w.heap.size < w1.heap.size := Bl hb1 (by first | assumption | (simp; done) | (simp; omega)); have hz1 : w.heap.size + 1 < w1.heap.size := Bl hb1 (by first | assumption | (simp; done) | (simp; omega)))
        | (go_at_call_of 22 (Value.agg #[.int .i64 c, .int .i64 d]); refine (rhas_any _ _ _ _ _ _ _).mono ?_; rintro e w1 ⟨rfl, hb1⟩; obtain ⟨hc1, hf1⟩ := bcell hb1; have hz0 : w.heap.size < w1.heap.size := Bl hb1 (by first | assumption | (simp; done) | (simp; omega)); have hz1 : w.heap.size + 1 < w1.heap.size := Bl hb1 (by first | assumption | (simp; done) | (simp; omega)))
        | (go_at_call 23; refine (meets_any _ _ _ _ _ _ _ _ _).mono ?_; rintro e w1 ⟨rfl, hb1⟩; obtain ⟨hc1, hf1⟩ := bcell hb1; have hz0 : w.heap.size < w1.heap.size := Bl hb1 (by first | assumption | (simp; done) | (simp; omega)); have hz1 : w.heap.size + 1 < w1.heap.size := Bl hb1 (by first | assumption | (simp; done) | (simp; omega)))
        | (go_at_call 24; refine (rmeets_any _ _ _ _ _ _ _ _ _).mono ?_; rintro e w1 ⟨rfl, hb1⟩; obtain ⟨hc1, hf1⟩ := bcell hb1; have hz0 : w.heap.size < w1.heap.size := Bl hb1 (by first | assumption | (simp; done) | (simp; omega)); have hz1 : w.heap.size + 1 < w1.heap.size := Bl hb1 (by first | assumption | (simp; done) | (simp; omega)))
        | (go_at_call 25; refine (inside_any _ _ _ _ _ _ _ _ _).mono ?_; rintro e w1 ⟨rfl, hb1⟩; obtain ⟨hc1, hf1⟩ := bcell hb1; have hz0 : w.heap.size < w1.heap.size := Bl hb1 (by first | assumption | (simp; done) | (simp; omega)); have hz1 : w.heap.size + 1 < w1.heap.size := Bl hb1 (by first | assumption | (simp; done) | (simp; omega))))
    all_goals (go_ret; refine ⟨ret_bool ?_, (by repeat (first | exact Below.refl _ _ | apply Ba | apply Bd | apply Bn | (refine Bt ?_ (by assumption)) | (refine Bs ?_ (by first | (simp; done) | (simp; omega)) _)))⟩; have k1 := H1.out; have k2 := H2.out; clear H1 H2; simp_all)

end Go.Proofs.YtnmjpjjomonbnaaDoor
