import Derived.Test.YtahichjiphjapaaGreatDoorZ3
import Derived.Test.YtahichjiphjapaaGreatDoorZ4
import Derived.Test.YtahichjiphjapaaGreatDoorZ1

/-
  Package quad: a cell's side, column, depth; which cells there are.
-/
namespace Go.Proofs.YtahichjiphjapaaGreatDoor
set_option linter.unusedSimpArgs false
set_option linter.unusedVariables false
open Go.RowKit Go.Sort Go.Lib Go.Shelf

theorem frz0 {w : World} {b : Nat} {t : TypeId} {cs : Array Value} (h : w.heap[b]? = some (.cells cs t (0, 0))) (o : Nat) : w.frozen? ⟨b, o, none⟩ = false := by
  simp [World.frozen?, h]
theorem setC3 {w : World} {p : Nat} {t : TypeId} {a b c x y z : Value} (h : w.heap[p]? = some (.cells #[a, b, c] t (0, 0))) : (((w.setCell ⟨p, 0, none⟩ x).setCell ⟨p, 1, none⟩ y).setCell ⟨p, 2, none⟩ z).heap[p]? = some (.cells #[x, y, z] t (0, 0)) := by
  have h1 : (w.setCell ⟨p, 0, none⟩ x).heap[p]? = some (.cells #[x, b, c] t (0, 0)) := heap_setCell_same w p 0 _ t x h
  have h2 : ((w.setCell ⟨p, 0, none⟩ x).setCell ⟨p, 1, none⟩ y).heap[p]? = some (.cells #[x, y, c] t (0, 0)) := heap_setCell_same _ p 1 _ t y h1
  exact heap_setCell_same _ p 2 _ t z h2
theorem tch3 {w w' : World} {M : Nat → Prop} {p : Nat} (h : Tch M w w') (hp : M p) (x y z : Value) : Tch M w (((w'.setCell ⟨p, 0, none⟩ x).setCell ⟨p, 1, none⟩ y).setCell ⟨p, 2, none⟩ z) :=
  ((h.more (Tch.set _ (p := ⟨p, 0, none⟩) hp x)).more (Tch.set _ (p := ⟨p, 1, none⟩) hp y)).more (Tch.set _ (p := ⟨p, 2, none⟩) hp z)
theorem shr_side {d : Nat} (hd : d ≤ 8) : (4194304 : Int) / 2 ^ d = sideI d := by
  rcases le8 hd with rfl | rfl | rfl | rfl | rfl | rfl | rfl | rfl | rfl <;> rfl
theorem qside_call (d : Nat) (hd : d ≤ 8) (w : World) :
    Calls Tryz.prog 99 #[.int .i64 d] w fun e w' => e = .returned (.int .i64 (sideI d)) ∧ w = w' := by
  have hs := shr_side hd
  have hw : wrap64 (sideI d) = sideI d := IntWalk.wrap64_in _ ⟨by have := side_pw hd; omega, by have := side_pw hd; omega⟩
  go_enter Tryz.func99, Tryz.ntmps99
  go_wp2
  go_ret
  exact ⟨ret_int (by simp [*]), rfl⟩
/-- The greatest depth, k at most, whose cells are as wide. -/
def dW (wd : Int) : Nat → Nat
  | 0 => 0
  | k + 1 => if wd ≤ sideI (k + 1) then k + 1 else dW wd k
theorem dW_dK (wd ht : Int) : ∀ k, dW (max wd ht) k = dK wd ht k
  | 0 => rfl
  | k + 1 => by
    unfold dW
    rw [dK_step, dW_dK wd ht k]
    by_cases h : wd ≤ sideI (k + 1) ∧ ht ≤ sideI (k + 1)
    · rw [if_pos h, if_pos (by omega)]
    · rw [if_neg h, if_neg (by omega)]
theorem dW_le (wd : Int) : ∀ k, dW wd k ≤ k
  | 0 => Nat.le_refl _
  | k + 1 => by unfold dW; split; exact Nat.le_refl _; exact Nat.le_succ_of_le (dW_le wd k)
theorem qdepth_call (wd : Int) (w : World) :
    Calls Tryz.prog 70 #[.int .i64 wd] w fun e w' => e = .returned (.int .i64 (dW wd 8 : Nat)) ∧ w = w' := by
  have HD := Lib.hid (show ∀ k, k ≤ 8 → dW wd (k + 1) = if wd ≤ sideI (k + 1) then k + 1 else dW wd k from fun _ _ => rfl)
  have H0 := Lib.hid (show dW wd 0 = 0 from rfl)
  obtain ⟨D, hD⟩ : ∃ D, D = dW wd 8 := ⟨_, rfl⟩
  have HE := Lib.hid hD
  rw [← hD]
  clear hD
  go_enter Tryz.func70, Tryz.ntmps70
  go_wp2
  go_loopw [3] (fun s wr => ∃ k : Nat, k ≤ 8 ∧ s = .int .i64 k ∧ Hid (D = dW wd k) ∧ wr = w) (fun s _ => (intOf s).toNat)
  case atStart => exact ⟨8, by omega, rfl, HE, rfl⟩
  case round =>
    obtain ⟨k, hk, rfl, HK, rfl⟩ := hrel
    cases k with
    | zero =>
      go_wp2
      go_ret
      exact ⟨ret_int (by have := HK.out; have := H0.out; omega), rfl⟩
    | succ k =>
      have SC := Lib.hid (qside_call (k + 1) hk wr)
      have hst := HD.out k (by omega)
      have hp : ((k + 1 : Nat) : Int) > 0 := by omega
      generalize hs : sideI (k + 1) = s at *
      by_cases h : wd ≤ s
      · rw [if_pos h] at hst
        have HS := Lib.hid (HK.out.trans hst)
        clear hst hs
        go_wp2_with fail
        refine SC.out.mono ?_
        rintro e w1 ⟨rfl, rfl⟩
        go_wp2
        go_ret
        exact ⟨ret_int (by have := HS.out; omega), rfl⟩
      · rw [if_neg h] at hst
        have HS := Lib.hid (HK.out.trans hst)
        clear hst hs
        go_wp2_with fail
        refine SC.out.mono ?_
        rintro e w1 ⟨rfl, rfl⟩
        go_wp2
        go_roundw
        case measure => simp only [intOf]; omega
        case rel => exact ⟨k, by omega, by go_num, HS, by trivial⟩
theorem sb {f : FuncId} {args : Array Value} {w : World} {E : Ending} (h : Calls Tryz.prog f args w fun e w' => e = E ∧ w = w') : Calls Tryz.prog f args w fun e w' => e = E ∧ RowKit.Below w.heap.size w w' := h.mono fun _ _ ⟨a, b⟩ => ⟨a, b ▸ Below.refl _ _⟩
theorem qcolumn_call (n : Int) (d : Nat) (hd : d ≤ 8) (h0 : -2097152 ≤ n) (h1 : n ≤ 2097152) (w : World) :
    Calls Tryz.prog 71 #[.int .i64 n, .int .i64 d] w fun e w' => e = .returned (.int .i64 (colI n d)) ∧ RowKit.Below w.heap.size w w' := by
  have SC := Lib.hid (fun w => qside_call d hd w)
  obtain ⟨s1, s2, s3, s4, s5⟩ := side_pw hd
  have hpw := wrap_pw hd
  have hC := Lib.hid (show colI n d = min ((n + 2097152) / sideI d) (pwI d - 1) from rfl)
  have hw1 : wrap64 (n - -2097152) = n + 2097152 := (IntWalk.wrap64_in _ ⟨by omega, by omega⟩).trans (by omega)
  have hq : (n + 2097152).tdiv (sideI d) = (n + 2097152) / sideI d := Int.tdiv_eq_ediv_of_nonneg (by omega)
  have hq0 : 0 ≤ (n + 2097152) / sideI d := Int.ediv_nonneg (by omega) (by omega)
  have hq1 : (n + 2097152) / sideI d ≤ 4194304 := Int.le_trans (Int.ediv_le_self _ (by omega)) (by omega)
  generalize (n + 2097152) / sideI d = Q at *
  have hw2 : wrap64 Q = Q := IntWalk.wrap64_in _ ⟨by omega, by omega⟩
  generalize sideI d = s at *
  generalize pwI d = pw at *
  generalize colI n d = C at *
  have hs0 : ¬ s = 0 := by omega
  have hw3 : wrap64 (n + 2097152) = n + 2097152 := IntWalk.wrap64_in _ ⟨by omega, by omega⟩
  clear s1
  have hpw1 : wrap64 (pw - 1) = pw - 1 := IntWalk.wrap64_in _ ⟨by omega, by omega⟩
  have hE := Lib.hid (show min (IntKind.i64.wrap ((IntKind.i64.wrap (n + 2097152)).tdiv s)) (IntKind.i64.wrap (IntKind.i64.wrap (2 ^ d) - 1)) = C from by
    have a1 : IntKind.i64.wrap (n + 2097152) = n + 2097152 := (IntWalk.i64_left _).trans hw3
    have a2 : IntKind.i64.wrap (2 ^ d) = pw := (IntWalk.i64_left _).trans hpw
    have a3 : IntKind.i64.wrap (pw - 1) = pw - 1 := (IntWalk.i64_left _).trans hpw1
    have a4 : IntKind.i64.wrap Q = Q := (IntWalk.i64_left _).trans hw2
    rw [a1, a2, a3, hq, a4]
    exact hC.out.symm)
  go_enter Tryz.func71, Tryz.ntmps71
  go_wp2_with fail
  refine wp_region_held_drew (S := (fun w' => Below (w).heap.size (w) w' ∧ ∀ b_1 o, b_1 < (w).heap.size → w'.cell? ⟨b_1, o, none⟩ = (w).cell? ⟨b_1, o, none⟩)) (by kernel_rfl) (keep0 _) (fun hHeld => ?_)
  (refine wpAnyH_take (i := 0) (v := ?_) rfl (by kernel_rfl) (by kernel_rfl) (by kernel_rfl) (fun _ _ _ h => h) (Or.inl ⟨by rfl, ?rt⟩) (by assumption) ?_; case rt => (intro w hSw; (try dsimp only at hSw); go_simp; (try with_reducible rfl))); (try simp only [Act.put, List.getElem_toArray, List.getElem_cons_succ, List.getElem_cons_zero, List.setIfInBounds_toArray, List.set_cons_zero, List.set_cons_succ])
  (refine wpAnyH_take (i := 1) (v := ?_) rfl (by kernel_rfl) (by kernel_rfl) (by kernel_rfl) (fun _ _ _ h => h) (Or.inl ⟨by rfl, ?rt⟩) (by assumption) ?_; case rt => (intro w hSw; (try dsimp only at hSw); go_simp; (try with_reducible rfl))); (try simp only [Act.put, List.getElem_toArray, List.getElem_cons_succ, List.getElem_cons_zero, List.setIfInBounds_toArray, List.set_cons_zero, List.set_cons_succ])
  (refine wpAnyH_take (i := 2) (v := ?_) rfl (by kernel_rfl) (by kernel_rfl) (by kernel_rfl) (fun _ _ _ h => h) (Or.inl ⟨by rfl, ?rt⟩) (by assumption) ?_; case rt => (intro w hSw; (try dsimp only at hSw); go_simp; (try with_reducible rfl))); (try simp only [Act.put, List.getElem_toArray, List.getElem_cons_succ, List.getElem_cons_zero, List.setIfInBounds_toArray, List.set_cons_zero, List.set_cons_succ])
  (refine wpAnyH_take (i := 5) (v := ?_) rfl (by kernel_rfl) (by kernel_rfl) (by kernel_rfl) (fun _ _ _ h => h) (Or.inl ⟨by rfl, ?rt⟩) (by assumption) ?_; case rt => (intro w hSw; (try dsimp only at hSw); go_simp; (try with_reducible rfl))); (try simp only [Act.put, List.getElem_toArray, List.getElem_cons_succ, List.getElem_cons_zero, List.setIfInBounds_toArray, List.set_cons_zero, List.set_cons_succ])
  (refine wpAnyH_take (i := 6) (v := ?_) rfl (by kernel_rfl) (by kernel_rfl) (by kernel_rfl) (fun _ _ _ h => h) (Or.inl ⟨by rfl, ?rt⟩) (by assumption) ?_; case rt => (intro w hSw; (try dsimp only at hSw); go_simp; (try with_reducible rfl))); (try simp only [Act.put, List.getElem_toArray, List.getElem_cons_succ, List.getElem_cons_zero, List.setIfInBounds_toArray, List.set_cons_zero, List.set_cons_succ])
  (refine wpAnyH_take (i := 7) (v := ?_) rfl (by kernel_rfl) (by kernel_rfl) (by kernel_rfl) (fun _ _ _ h => h) (Or.inl ⟨by rfl, ?rt⟩) (by assumption) ?_; case rt => (intro w hSw; (try dsimp only at hSw); go_simp; (try with_reducible rfl))); (try simp only [Act.put, List.getElem_toArray, List.getElem_cons_succ, List.getElem_cons_zero, List.setIfInBounds_toArray, List.set_cons_zero, List.set_cons_succ])
  (refine wpAnyH_ready (rs := [3]) (by kernel_rfl) (by simp) ?_; refine AllReadyH.cons rfl (fun K hK => ?_) AllReadyH.nil; go_simp; refine (sb (SC.out _)).mono ?_; rintro e w1 ⟨rfl, hb1⟩; refine hK.out _ _ (keepB (by assumption) hb1) (fun hHeld => ?_); clear hK K); (try simp only [Act.put, List.getElem_toArray, List.getElem_cons_succ, List.getElem_cons_zero, List.setIfInBounds_toArray, List.set_cons_zero, List.set_cons_succ])
  (refine wpAnyH_take (i := 4) (v := ?_) rfl (by kernel_rfl) (by kernel_rfl) (by kernel_rfl) (fun _ _ _ h => h) (Or.inl ⟨by rfl, ?rt⟩) (by assumption) ?_; case rt => (intro w hSw; (try dsimp only at hSw); go_simp; (try with_reducible rfl))); (try simp only [Act.put, List.getElem_toArray, List.getElem_cons_succ, List.getElem_cons_zero, List.setIfInBounds_toArray, List.set_cons_zero, List.set_cons_succ])
  (refine wpAnyH_take (i := 8) (v := ?_) rfl (by kernel_rfl) (by kernel_rfl) (by kernel_rfl) (fun _ _ _ h => h) (Or.inl ⟨by rfl, ?rt⟩) (by assumption) ?_; case rt => (intro w hSw; (try dsimp only at hSw); go_simp; (try with_reducible rfl))); (try simp only [Act.put, List.getElem_toArray, List.getElem_cons_succ, List.getElem_cons_zero, List.setIfInBounds_toArray, List.set_cons_zero, List.set_cons_succ])
  rw [hE.out]
  (refine wpAnyH_take (i := 9) (v := ?_) rfl (by kernel_rfl) (by kernel_rfl) (by kernel_rfl) (fun _ _ _ h => h) (Or.inl ⟨by rfl, ?rt⟩) (by assumption) ?_; case rt => (intro w hSw; (try dsimp only at hSw); go_simp; (try with_reducible rfl))); (try simp only [Act.put, List.getElem_toArray, List.getElem_cons_succ, List.getElem_cons_zero, List.setIfInBounds_toArray, List.set_cons_zero, List.set_cons_succ])
  refine wpAnyH_done (by kernel_rfl) ?_ _
  go_wp2
  go_ret
  exact ⟨rfl, hHeld.1⟩
/-- Is there such a column? -/
theorem fits_call (d : Nat) (hd : d ≤ 8) (x y n : Int) (w : World) :
    Calls Tryz.prog 115 #[clV ((d : Int), x, y), .int .i64 n] w fun e w' => e = .returned (.bool (decide (0 ≤ n) && decide (n < pwI d))) ∧ RowKit.Below w.heap.size w w' := by
  have hpw := wrap_pw hd
  generalize pwI d = pw at *
  by_cases h0 : 0 ≤ n
  · go_enter Tryz.func115, Tryz.ntmps115
    go_wp2
    go_ret
    exact ⟨ret_bool (by simp [*]), (by repeat (first | with_reducible exact Below.refl _ _ | with_reducible assumption | with_reducible apply Ba | with_reducible apply Bd | with_reducible apply Bn | with_reducible apply Bg | (with_reducible refine Bs ?_ (by first | (simp; done) | (simp; omega)) _) | (with_reducible refine Bt ?_ (by assumption)) | (with_reducible refine Bt ?_ (Gr.below (by assumption)))))⟩
  · go_enter Tryz.func115, Tryz.ntmps115
    go_wp2
    go_ret
    exact ⟨ret_bool (by simp; omega), (by repeat (first | with_reducible exact Below.refl _ _ | with_reducible assumption | with_reducible apply Ba | with_reducible apply Bd | with_reducible apply Bn | with_reducible apply Bg | (with_reducible refine Bs ?_ (by first | (simp; done) | (simp; omega)) _) | (with_reducible refine Bt ?_ (by assumption)) | (with_reducible refine Bt ?_ (Gr.below (by assumption)))))⟩
theorem isCell_call (c1 c2 c3 : Int) (w : World) :
    Calls Tryz.prog 100 #[clV (c1, c2, c3)] w fun e w' => e = .returned (.bool (rightC (c1, c2, c3))) ∧ RowKit.Below w.heap.size w w' := by
  by_cases h0 : 0 ≤ c1
  · by_cases h8 : c1 ≤ 8
    · obtain ⟨d, rfl⟩ : ∃ d : Nat, c1 = (d : Int) := ⟨c1.toNat, by omega⟩
      have hd : d ≤ 8 := by omega
      have HR := Lib.hid (show rightC ((d : Int), c2, c3) = ((decide (0 ≤ c2) && decide (c2 < pwI d)) && (decide (0 ≤ c3) && decide (c3 < pwI d))) by
        rw [Bool.eq_iff_iff]
        unfold rightC
        simp only [Bool.and_eq_true, decide_eq_true_eq, Int.toNat_natCast]
        omega)
      have F1 := Lib.hid (fun w => fits_call d hd c2 c3 c2 w)
      have F2 := Lib.hid (fun w => fits_call d hd c2 c3 c3 w)
      generalize rightC ((d : Int), c2, c3) = r at *
      generalize (decide (0 ≤ c2) && decide (c2 < pwI d)) = b1 at *
      generalize (decide (0 ≤ c3) && decide (c3 < pwI d)) = b2 at *
      have hr := HR.out
      clear HR
      subst hr
      cases b1
      · go_enter Tryz.func100, Tryz.ntmps100
        go_wp2_with fail
        refine (F1.out _).mono ?_
        rintro e w1 ⟨rfl, hb1⟩
        go_wp2
        go_ret
        exact ⟨rfl, (by repeat (first | with_reducible exact Below.refl _ _ | with_reducible assumption | with_reducible apply Ba | with_reducible apply Bd | with_reducible apply Bn | with_reducible apply Bg | (with_reducible refine Bs ?_ (by first | (simp; done) | (simp; omega)) _) | (with_reducible refine Bt ?_ (by assumption)) | (with_reducible refine Bt ?_ (Gr.below (by assumption)))))⟩
      · have L := World.cell?_alloc_at (w := w) #[.int .i64 d, .int .i64 c2, .int .i64 c3] 87 w.heap.size
        go_enter Tryz.func100, Tryz.ntmps100
        go_wp2_with fail
        refine (F1.out _).mono ?_
        rintro e w1 ⟨rfl, hb1⟩
        obtain ⟨⟨r1, r2, r3⟩, f1, f2, f3⟩ := cells3 (blk_below (heap_alloc_new w (.cells #[.int .i64 d, .int .i64 c2, .int .i64 c3] 87)) hb1)
        have B1 := Lib.hid (Bt (Ba (Below.refl _ w) _) hb1)
        clear hb1
        go_wp2_with fail
        refine (F2.out _).mono ?_
        rintro e w2 ⟨rfl, hb2⟩
        have B2 := Lib.hid (Bt B1.out hb2)
        clear hb2
        go_wp2
        go_ret
        exact ⟨rfl, B2.out⟩
    · have hr : rightC (c1, c2, c3) = false := by
        unfold rightC
        simp [h8]
      rw [hr]
      clear hr
      go_enter Tryz.func100, Tryz.ntmps100
      go_wp2
      go_ret
      exact ⟨ret_bool (by simp [*]), (by repeat (first | with_reducible exact Below.refl _ _ | with_reducible assumption | with_reducible apply Ba | with_reducible apply Bd | with_reducible apply Bn | with_reducible apply Bg | (with_reducible refine Bs ?_ (by first | (simp; done) | (simp; omega)) _) | (with_reducible refine Bt ?_ (by assumption)) | (with_reducible refine Bt ?_ (Gr.below (by assumption)))))⟩
  · have hr : rightC (c1, c2, c3) = false := by
      unfold rightC
      simp [h0]
    rw [hr]
    clear hr
    go_enter Tryz.func100, Tryz.ntmps100
    go_wp2
    go_ret
    exact ⟨ret_bool (by simp [*]), (by repeat (first | with_reducible exact Below.refl _ _ | with_reducible assumption | with_reducible apply Ba | with_reducible apply Bd | with_reducible apply Bn | with_reducible apply Bg | (with_reducible refine Bs ?_ (by first | (simp; done) | (simp; omega)) _) | (with_reducible refine Bt ?_ (by assumption)) | (with_reducible refine Bt ?_ (Gr.below (by assumption)))))⟩
end Go.Proofs.YtahichjiphjapaaGreatDoor

/-
  Package quad: the cell above, a quarter, the loose box.
-/
namespace Go.Proofs.YtahichjiphjapaaGreatDoor
set_option linter.unusedSimpArgs false
set_option linter.unusedVariables false
open Go.RowKit Go.Sort Go.Lib Go.Shelf

set_option maxRecDepth 100000 in
theorem quarter_call (d : Nat) (x y : Int) (i : Nat) (hd : d ≤ 8) (hx0 : 0 ≤ x) (hx1 : x ≤ 255) (hy0 : 0 ≤ y) (hy1 : y ≤ 255) (hi : i < 4) (w : World) :
    Calls Tryz.prog 86 #[clV ((d : Int), x, y), .int .i64 i] w fun e w' => e = .returned (clV (quarC ((d : Int), x, y) i)) ∧ RowKit.Below w.heap.size w w' := by
  have e1 : ((i : Int)).tmod 2 = ((i % 2 : Nat) : Int) := rfl
  have e2 : ((i : Int)).tdiv 2 = ((i / 2 : Nat) : Int) := rfl
  have b1 : i % 2 ≤ 1 := by omega
  have b2 : i / 2 ≤ 1 := by omega
  unfold quarC
  dsimp only
  generalize i % 2 = r at *
  generalize i / 2 = q at *
  go_enter Tryz.func86, Tryz.ntmps86
  go_wp2
  refine bodyPost_ret (v := clV ((d : Int) + 1, 2 * x + (r : Int), 2 * y + (q : Int))) ?_ rfl ⟨rfl, (by repeat (first | with_reducible exact Below.refl _ _ | with_reducible assumption | with_reducible apply Ba | with_reducible apply Bd | with_reducible apply Bn | with_reducible apply Bg | (with_reducible refine Bs ?_ (by first | (simp; done) | (simp; omega)) _) | (with_reducible refine Bt ?_ (by assumption)) | (with_reducible refine Bt ?_ (Gr.below (by assumption)))))⟩
  simp [results, Tryz.results86, go_sem, *]
set_option maxRecDepth 100000 in
theorem qUp_call (c1 c2 c3 : Int) (w : World) :
    Calls Tryz.prog 75 #[clV (c1, c2, c3)] w fun e w' => e = .returned (.tuple #[clV (if rightC (c1, c2, c3) && decide (0 < c1) then upC (c1, c2, c3) else (0, 0, 0)), .bool (rightC (c1, c2, c3) && decide (0 < c1))]) ∧ RowKit.Below w.heap.size w w' := by
  have IC := Lib.hid (fun w => isCell_call c1 c2 c3 w)
  by_cases h0 : c1 = 0
  · have hr : (rightC (c1, c2, c3) && decide (0 < c1)) = false := by simp [h0]
    rw [hr]
    subst h0
    clear hr
    go_enter Tryz.func75, Tryz.ntmps75
    go_wp2
    exact bodyPost_ret (v := .tuple #[clV (0, 0, 0), .bool false]) (by simp [results, Tryz.results75, go_sem, *]) rfl ⟨rfl, (by repeat (first | with_reducible exact Below.refl _ _ | with_reducible assumption | with_reducible apply Ba | with_reducible apply Bd | with_reducible apply Bn | with_reducible apply Bg | (with_reducible refine Bs ?_ (by first | (simp; done) | (simp; omega)) _) | (with_reducible refine Bt ?_ (by assumption)) | (with_reducible refine Bt ?_ (Gr.below (by assumption)))))⟩
  · cases hr : rightC (c1, c2, c3) with
    | false =>
      rw [hr] at IC
      rw [Bool.false_and]
      clear hr
      have k1 := heap_alloc_new w (.cells #[.int .i64 c1, .int .i64 c2, .int .i64 c3] 87)
      go_enter Tryz.func75, Tryz.ntmps75
      go_wp2_with fail
      refine (IC.out _).mono ?_
      rintro e w1 ⟨rfl, hb1⟩
      have B1 := Lib.hid (Bt (Ba (Ba (Below.refl _ w) (.cells #[.int .i64 c1, .int .i64 c2, .int .i64 c3] 87)) (.cells #[.int .i64 0, .int .i64 0, .int .i64 0] 87)) hb1)
      obtain ⟨k2, k3⟩ := three_blk (w := w) (o1 := .cells #[.int .i64 c1, .int .i64 c2, .int .i64 c3] 87) (o2 := .cells #[.int .i64 0, .int .i64 0, .int .i64 0] 87) hb1
      obtain ⟨⟨r1, r2, r3⟩, f1, f2, f3⟩ := cells3 k3
      clear k1 k2 k3 hb1
      go_wp2
      exact bodyPost_ret (v := .tuple #[clV (0, 0, 0), .bool false]) (by simp [results, Tryz.results75, go_sem, *]) rfl ⟨rfl, Bs (Bs (Bs B1.out (by simp) _) (by simp) _) (by simp) _⟩
    | true =>
      have hr2 := hr
      rw [hr] at IC
      unfold rightC at hr2
      simp only [Bool.and_eq_true, decide_eq_true_eq] at hr2
      have hd : decide (0 < c1) = true := decide_eq_true (by omega)
      rw [hd, Bool.true_and, if_pos rfl]
      have e1 : c2.tdiv 2 = c2 / 2 := Int.tdiv_eq_ediv_of_nonneg (by omega)
      have e2 : c3.tdiv 2 = c3 / 2 := Int.tdiv_eq_ediv_of_nonneg (by omega)
      obtain ⟨_, _, _, _, hp⟩ := side_pw (d := c1.toNat) (by omega)
      have q1 : c2 / 2 ≤ 255 ∧ 0 ≤ c2 / 2 := by omega
      have q2 : c3 / 2 ≤ 255 ∧ 0 ≤ c3 / 2 := by omega
      have p1 : c1 - 1 ≤ 8 ∧ 0 ≤ c1 - 1 := by omega
      unfold upC
      dsimp only
      generalize c2 / 2 = y2 at *
      generalize c3 / 2 = y3 at *
      clear hr hr2 hd hp
      go_enter Tryz.func75, Tryz.ntmps75
      go_wp2_with fail
      refine (IC.out _).mono ?_
      rintro e w1 ⟨rfl, hb1⟩
      have B1 := Lib.hid (Bt (Ba (Ba (Below.refl _ w) (.cells #[.int .i64 c1, .int .i64 c2, .int .i64 c3] 87)) (.cells #[.int .i64 0, .int .i64 0, .int .i64 0] 87)) hb1)
      obtain ⟨k2, k3⟩ := three_blk (w := w) (o1 := .cells #[.int .i64 c1, .int .i64 c2, .int .i64 c3] 87) (o2 := .cells #[.int .i64 0, .int .i64 0, .int .i64 0] 87) hb1
      obtain ⟨⟨r1, r2, r3⟩, f1, f2, f3⟩ := cells3 k3
      obtain ⟨⟨t1, t2, t3⟩, g1, g2, g3⟩ := cells3 k2
      clear k2 k3 hb1
      go_wp2
      exact bodyPost_ret (v := .tuple #[clV (c1 - 1, y2, y3), .bool true]) (by simp [results, Tryz.results75, go_sem, *]) rfl ⟨rfl, Bs (Bs (Bs B1.out (by simp) _) (by simp) _) (by simp) _⟩
end Go.Proofs.YtahichjiphjapaaGreatDoor

/-
  Package quad: the loose box.
-/
namespace Go.Proofs.YtahichjiphjapaaGreatDoor
set_option linter.unusedSimpArgs false
set_option linter.unusedVariables false
open Go.RowKit Go.Sort Go.Lib Go.Shelf

theorem side_even {d : Nat} (hd : d ≤ 8) : sideI d / 2 + sideI d / 2 = sideI d := by
  rcases le8 hd with rfl | rfl | rfl | rfl | rfl | rfl | rfl | rfl | rfl <;> rfl
theorem side_mul {d : Nat} (hd : d ≤ 8) {x : Int} (h0 : 0 ≤ x) (h1 : x < pwI d) : 0 ≤ x * sideI d ∧ x * sideI d ≤ 4194304 := by
  obtain ⟨s1, s2, s3, s4, s5⟩ := side_pw hd
  have h2 := Int.mul_le_mul_of_nonneg_right (show x ≤ pwI d by omega) (show 0 ≤ sideI d by omega)
  have h3 := Int.mul_nonneg h0 (show 0 ≤ sideI d by omega)
  rw [Int.mul_comm (pwI d)] at h2
  omega
set_option maxHeartbeats 1000000 in
set_option maxRecDepth 100000 in
theorem qLoose_call (c1 c2 c3 : Int) (w : World) (h : rightC (c1, c2, c3) = true) :
    Calls Tryz.prog 87 #[clV (c1, c2, c3)] w fun e w' => e = .returned (.tuple #[bxV (looseC (c1, c2, c3)), .nilIface]) ∧ RowKit.Below w.heap.size w w' := by
  have IC := Lib.hid (fun w => isCell_call c1 c2 c3 w)
  rw [h] at IC
  unfold rightC at h
  simp only [Bool.and_eq_true, decide_eq_true_eq] at h
  obtain ⟨d, rfl⟩ : ∃ d : Nat, c1 = (d : Int) := ⟨c1.toNat, by omega⟩
  unfold looseC
  dsimp only
  simp only [Int.toNat_natCast] at h ⊢
  have hd : d ≤ 8 := by omega
  have SC := Lib.hid (fun w => qside_call d hd w)
  obtain ⟨m1, m2⟩ := side_mul hd (x := c2) (by omega) (by omega)
  obtain ⟨n1, n2⟩ := side_mul hd (x := c3) (by omega) (by omega)
  have he := side_even hd
  obtain ⟨_, s2, s3, s4, s5⟩ := side_pw hd
  have x1 : 0 ≤ c2 ∧ c2 ≤ 255 := by omega
  have x2 : 0 ≤ c3 ∧ c3 ≤ 255 := by omega
  clear h
  have hq : (sideI d).tdiv 2 = sideI d / 2 := Int.tdiv_eq_ediv_of_nonneg (by omega)
  generalize sideI d = s at *
  generalize hm : c2 * s = m at *
  generalize hn : c3 * s = n at *
  generalize s / 2 = t at *
  have hwm : wrap64 m = m := IntWalk.wrap64_in _ ⟨by omega, by omega⟩
  have hwn : wrap64 n = n := IntWalk.wrap64_in _ ⟨by omega, by omega⟩
  have hs2 : 2 * s = s + s := by omega
  go_enter Tryz.func87, Tryz.ntmps87
  go_wp2_with fail
  refine (IC.out _).mono ?_
  rintro e w1 ⟨rfl, hb1⟩
  have B1 := Lib.hid (Bt (Ba (Ba (Below.refl _ w) (.cells #[.int .i64 d, .int .i64 c2, .int .i64 c3] 87)) (.cells #[.int .i64 0, .int .i64 0, .int .i64 0, .int .i64 0] 45)) hb1)
  obtain ⟨k2, k3⟩ := three_blk (w := w) (o1 := .cells #[.int .i64 d, .int .i64 c2, .int .i64 c3] 87) (o2 := .cells #[.int .i64 0, .int .i64 0, .int .i64 0, .int .i64 0] 45) hb1
  obtain ⟨⟨r1, r2, r3⟩, f1, f2, f3⟩ := cells3 k2
  clear hb1
  go_wp2_with fail
  refine (SC.out _).mono ?_
  rintro e w2 ⟨rfl, rfl⟩
  obtain ⟨t1, t2, t3, t4⟩ := cells4 k3
  have g1 := frz0 k3 0
  have g2 := frz0 k3 1
  have g3 := frz0 k3 2
  have g4 := frz0 k3 3
  have hl2 : w.heap.size + 1 < w1.heap.size := by have := (Array.getElem?_eq_some_iff.1 k3).1; omega
  have hne : w.heap.size + 1 ≠ w1.heap.size := by omega
  clear k2 k3
  go_wp2
  exact bodyPost_ret (v := .tuple #[bxV (m - 2097152 - t, n - 2097152 - t, m - 2097152 + s + t, n - 2097152 + s + t), .nilIface]) (by simp [results, Tryz.results87, go_sem, *]; omega) rfl ⟨rfl, (by have := B1.out; exact (by repeat (first | with_reducible exact Below.refl _ _ | with_reducible assumption | with_reducible apply Ba | with_reducible apply Bd | with_reducible apply Bn | with_reducible apply Bg | (with_reducible refine Bs ?_ (by first | (simp; done) | (simp; omega)) _) | (with_reducible refine Bt ?_ (by assumption)) | (with_reducible refine Bt ?_ (Gr.below (by assumption))))))⟩
set_option maxHeartbeats 1000000 in
set_option maxRecDepth 100000 in
theorem qLoose_no {eR eN eF : TypeId × Value} (c1 c2 c3 : Int) (w : World) (h : rightC (c1, c2, c3) = false) (hE : Er3 w eR eN eF) :
    Calls Tryz.prog 87 #[clV (c1, c2, c3)] w fun e w' => e = .returned (.tuple #[bxV (0, 0, 0, 0), .iface eR.1 eR.2]) ∧ RowKit.Below w.heap.size w w' := by
  have IC := Lib.hid (fun w => isCell_call c1 c2 c3 w)
  rw [h] at IC
  clear h
  have hlt := cell_lt hE.eR
  have HG := hE.eR
  go_enter Tryz.func87, Tryz.ntmps87
  go_wp2_with fail
  refine (IC.out _).mono ?_
  rintro e w1 ⟨rfl, hb1⟩
  have b1 := (Bt (Ba (Ba (Below.refl _ w) (.cells #[.int .i64 c1, .int .i64 c2, .int .i64 c3] 87)) (.cells #[.int .i64 0, .int .i64 0, .int .i64 0, .int .i64 0] 45)) hb1)
  have B1 := Lib.hid b1
  have hg := Bc b1 hlt HG
  obtain ⟨k2, k3⟩ := three_blk (w := w) (o1 := .cells #[.int .i64 c1, .int .i64 c2, .int .i64 c3] 87) (o2 := .cells #[.int .i64 0, .int .i64 0, .int .i64 0, .int .i64 0] 45) hb1
  obtain ⟨t1, t2, t3, t4⟩ := cells4 k3
  have g1 := frz0 k3 0
  have g2 := frz0 k3 1
  have g3 := frz0 k3 2
  have g4 := frz0 k3 3
  clear k2 k3 hb1 b1 hE HG
  go_wp2
  go_region
  go_wp2
  exact bodyPost_ret (v := .tuple #[bxV (0, 0, 0, 0), .iface eR.1 eR.2]) (by simp [results, Tryz.results87, go_sem, *]) rfl ⟨rfl, (by have := B1.out; exact (by repeat (first | with_reducible exact Below.refl _ _ | with_reducible assumption | with_reducible apply Ba | with_reducible apply Bd | with_reducible apply Bn | with_reducible apply Bg | (with_reducible refine Bs ?_ (by first | (simp; done) | (simp; omega)) _) | (with_reducible refine Bt ?_ (by assumption)) | (with_reducible refine Bt ?_ (Gr.below (by assumption))))))⟩
end Go.Proofs.YtahichjiphjapaaGreatDoor
