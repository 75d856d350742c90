import Derived.Test.YtlnncnbahmgpfaaGreatDoorZ0
import Derived.Test.YtlnncnbahmgpfaaGreatDoorZ2
import Derived.Test.YtlnncnbahmgpfaaGreatDoorZ23
import Derived.Test.YtlnncnbahmgpfaaGreatDoorZ24
import Derived.Deep.RegionHeld3
import Derived.Test.YtlnncnbahmgpfaaGreatDoorZ25

/-
  The reference: Half, Side, column.
-/
namespace Go.Proofs.YtlnncnbahmgpfaaGreatDoor
set_option linter.unusedSimpArgs false
set_option linter.unusedVariables false
open Go.RowKit Go.Sort Go.Lib Go.Shelf

theorem rhalf_any (n : Int) (w : World) (h0 : -4611686018427387904 ≤ n) (h1 : n ≤ 4611686018427387904) :
    Calls Tryz.prog 22 #[.int .i64 n] w fun e w' => e = .returned (.int .i64 (halfI n)) ∧ w = w' := by
  unfold halfI
  by_cases h : n < 0
  · have e1 : ((1 - n) : Int).tdiv 2 = -(n / 2) := by rw [Int.tdiv_eq_ediv_of_nonneg (by omega)]; omega
    go_enter Tryz.func22, Tryz.ntmps22
    go_wp2
    go_ret
    exact ⟨ret_int (by omega), rfl⟩
  · have e1 : n.tdiv 2 = n / 2 := Int.tdiv_eq_ediv_of_nonneg (by omega)
    go_enter Tryz.func22, Tryz.ntmps22
    go_wp2
    go_ret
    exact ⟨rfl, rfl⟩
theorem rside_call (d : Nat) (hd : d ≤ 8) (w : World) :
    Calls Tryz.prog 20 #[.int .i64 d] w fun e w' => e = .returned (.int .i64 (sideI d)) ∧ w = w' := by
  go_enter Tryz.func20, Tryz.ntmps20
  go_wp2
  go_loopw [3, 4] (fun s u wr => ∃ i : Nat, i ≤ d ∧ u = .int .i64 i ∧ s = .int .i64 (sideI i) ∧ wr = w) (fun _ u _ => d - (intOf u).toNat)
  case atStart => exact ⟨0, Nat.zero_le _, rfl, rfl, rfl⟩
  case round =>
    obtain ⟨i, hi, rfl, rfl, rfl⟩ := hrel
    by_cases hlt : i < d
    · have h2 := side_half (show i < 8 by omega)
      obtain ⟨h1, h5, h3, h4⟩ := h2
      generalize hs : sideI i = s at *
      have HS := Lib.hid hs
      generalize hs1 : sideI (i + 1) = s1 at *
      have HS1 := Lib.hid hs1
      have H1 := Lib.hid h1
      clear hs hs1 h1
      go_wp2
      go_roundw
      case measure => simp only [intOf]; omega
      case rel => exact ⟨i + 1, by omega, by go_num, by rw [HS1.out, H1.out], by trivial⟩
    · obtain rfl : i = d := by omega
      go_wp2
      go_ret
      exact ⟨rfl, rfl⟩
theorem wrap_pw {d : Nat} (hd : d ≤ 8) : wrap64 ((2 : Int) ^ d) = pwI d := by
  rcases le8 hd with rfl | rfl | rfl | rfl | rfl | rfl | rfl | rfl | rfl <;> exact (IntWalk.wrap64_in _ ⟨by decide, by decide⟩).trans (by decide)
theorem rcolumn_call (n : Int) (d : Nat) (hd : d ≤ 8) (h0 : -2097152 ≤ n) (h1 : n ≤ 2097152) (w : World) :
    Calls Tryz.prog 21 #[.int .i64 n, .int .i64 d] w fun e w' => e = .returned (.int .i64 (colI n d)) ∧ w = w' := by
  have SC := Lib.hid (fun w => rside_call d hd w)
  have CS := Lib.hid (fun k hk => col_step (n := n) hd h0 k hk)
  obtain ⟨s1, s2, s3, s4, s5⟩ := side_pw hd
  obtain ⟨b1, b2, b3⟩ := col_bounds hd h0
  generalize colI n d = C at *
  have hpw := wrap_pw hd
  go_enter Tryz.func21, Tryz.ntmps21
  go_wp2_with fail
  refine (SC.out _).mono ?_
  rintro e w1 ⟨rfl, rfl⟩
  go_wp2
  go_loopw [6] (fun u wr => ∃ k : Int, 0 ≤ k ∧ k ≤ C ∧ u = .int .i64 k ∧ wr = w) (fun u _ => (C - intOf u).toNat)
  case atStart => exact ⟨0, by omega, by omega, rfl, rfl⟩
  case round =>
    obtain ⟨k, hk0, hkC, rfl, rfl⟩ := hrel
    have hst := CS.out k hk0
    have hm : k + 1 < pwI d → 0 ≤ (k + 1) * sideI d ∧ (k + 1) * sideI d ≤ 4194304 := fun h => by
      have h2 := Int.mul_le_mul_of_nonneg_right (show k + 1 ≤ pwI d by omega) (show 0 ≤ sideI d by omega)
      have h3 := Int.mul_nonneg (show 0 ≤ k + 1 by omega) (show 0 ≤ sideI d by omega)
      rw [Int.mul_comm (pwI d)] at h2
      omega
    clear s1
    generalize hmm : (k + 1) * sideI d = m at *
    generalize pwI d = pw at *
    by_cases h2 : k + 1 < pw
    · obtain ⟨m1, m2⟩ := hm h2
      have hw1 : wrap64 ((k + 1) * sideI d) = m := by rw [hmm]; exact IntWalk.wrap64_in _ ⟨by omega, by omega⟩
      have hw2 : wrap64 (-2097152 + m) = -2097152 + m := IntWalk.wrap64_in _ ⟨by omega, by omega⟩
      clear hmm
      by_cases h3 : -2097152 + m ≤ n
      · have hlt := hst.1 ⟨h2, h3⟩
        clear hst hm

        go_wp2
        go_roundw
        case measure => simp only [intOf]; omega
        case rel => exact ⟨k + 1, by omega, by omega, by go_num, by trivial⟩
      · have hge : k = C := by
          have := fun h => h3 (hst.2 h).2
          omega
        clear hst hm
        subst hge
        go_wp2
        go_ret
        exact ⟨rfl, rfl⟩
    · have hge : k = C := by omega
      clear hst hm
      subst hge
      go_wp2
      go_ret
      exact ⟨rfl, rfl⟩
end Go.Proofs.YtlnncnbahmgpfaaGreatDoor

/-
  The reference: Of.
-/
namespace Go.Proofs.YtlnncnbahmgpfaaGreatDoor
set_option linter.unusedSimpArgs false
set_option linter.unusedVariables false
open Go.RowKit Go.Sort Go.Lib Go.Shelf

theorem rright_okR (x1 x2 x3 x4 : Int) : rrightB x1 x2 x3 x4 = okR (x1, x2, x3, x4) := by
  rw [Bool.eq_iff_iff, okR_iff]
  simp only [rrightB, inB, Bool.and_eq_true, decide_eq_true_eq]
  omega
theorem okW_in (x1 x2 x3 x4 : Int) : okW (x1, x2, x3, x4) = (inB x1 2097152 && (inB x2 2097152 && (inB x3 2097152 && inB x4 2097152))) := by
  rw [Bool.eq_iff_iff, okW_iff]
  simp only [inB, Bool.and_eq_true, decide_eq_true_eq]
  omega
abbrev clV (c : Cl) : Value := .agg #[.int .i64 c.1, .int .i64 c.2.1, .int .i64 c.2.2]
theorem rside1 (k : Nat) (hk : k < 8) (w : World) : Calls Tryz.prog 20 #[.int .i64 ((k : Int) + 1)] w fun e w' => e = .returned (.int .i64 (sideI (k + 1))) ∧ Gr w w' := by
  have h := rside_call (k + 1) (by omega) w
  rw [show ((k + 1 : Nat) : Int) = (k : Int) + 1 from by omega] at h
  exact h.mono fun e w' ⟨a, b⟩ => ⟨a, b ▸ Gr.refl _⟩
theorem dK_step (wd ht : Int) (k : Nat) : dK wd ht (k + 1) = if wd ≤ sideI (k + 1) ∧ ht ≤ sideI (k + 1) then k + 1 else dK wd ht k := rfl
set_option maxHeartbeats 4000000 in
set_option maxRecDepth 100000 in
theorem rOf_call (x1 x2 x3 x4 : Int) (w : World) :
    Calls Tryz.prog 6 #[.agg #[.int .i64 x1, .int .i64 x2, .int .i64 x3, .int .i64 x4]] w fun e w' => e = .returned (.tuple #[clV (cellE (x1, x2, x3, x4)), .int .i64 (errB (x1, x2, x3, x4))]) ∧ RowKit.Below w.heap.size w w' := by
  have RR := Lib.hid (fun w => rright_any x1 x2 x3 x4 w)
  rw [rright_okR] at RR
  have hwi := okW_in x1 x2 x3 x4
  cases hR : okR (x1, x2, x3, x4)
  · rw [hR] at RR
    have HV : Hid (cellE (x1, x2, x3, x4) = (0, 0, 0) ∧ errB (x1, x2, x3, x4) = 7) := ⟨by simp [cellE, errB, hR], by simp [errB, hR]⟩
    rw [HV.out.1, HV.out.2]
    clear hwi HV hR
    go_enter Tryz.func6, Tryz.ntmps6
    go_wp2_with fail
    refine (RR.out _).mono ?_
    rintro e w1 ⟨rfl, hb1⟩
    have B1 := Bt (Ba (Ba (Below.refl _ w) (.cells #[.int .i64 x1, .int .i64 x2, .int .i64 x3, .int .i64 x4] 30)) (.cells #[.int .i64 0, .int .i64 0, .int .i64 0] 34)) hb1
    obtain ⟨k1, k2⟩ := three_blk (w := w) (o1 := .cells #[.int .i64 x1, .int .i64 x2, .int .i64 x3, .int .i64 x4] 30) (o2 := .cells #[.int .i64 0, .int .i64 0, .int .i64 0] 34) hb1
    obtain ⟨⟨r1, r2, r3⟩, f1, f2, f3⟩ := cells3 k2
    have hl := cell_lt r1
    clear k1 k2 hb1
    go_wp2
    exact bodyPost_ret (v := .tuple #[clV (0, 0, 0), .int .i64 7]) (by simp [results, Tryz.results6, go_sem, *]) rfl ⟨rfl, (by repeat (first | with_reducible exact Below.refl _ _ | with_reducible assumption | with_reducible apply Ba | with_reducible apply Bd | with_reducible apply Bn | with_reducible apply Bg | (with_reducible refine Bs ?_ (by first | (simp; done) | (simp; omega)) _) | (with_reducible refine Bt ?_ (by assumption)) | (with_reducible refine Bt ?_ (Gr.below (by assumption)))))⟩
  · rw [hR] at RR
    obtain ⟨r1', r2', r3', r4', r5', r6', r7', r8', hx, hy⟩ := okR_iff.1 hR
    dsimp only at r1' r2' r3' r4' r5' r6' r7' r8' hx hy
    have mixed : Tryz.prog.follows .mixedOrders = true := by kernel_rfl
    cases hW : okW (x1, x2, x3, x4)
    · have HV : Hid (cellE (x1, x2, x3, x4) = (0, 0, 0) ∧ errB (x1, x2, x3, x4) = 1) := ⟨by simp [cellE, errB, hR, hW], by simp [errB, hR, hW]⟩
      rw [HV.out.1, HV.out.2]
      rw [hW] at hwi
      clear HV hR hW
      go_enter Tryz.func6, Tryz.ntmps6
      go_wp2_with fail
      refine (RR.out _).mono ?_
      rintro e w1 ⟨rfl, hb1⟩
      have B1 := Bt (Ba (Ba (Below.refl _ w) (.cells #[.int .i64 x1, .int .i64 x2, .int .i64 x3, .int .i64 x4] 30)) (.cells #[.int .i64 0, .int .i64 0, .int .i64 0] 34)) hb1
      obtain ⟨k1, k2⟩ := three_blk (w := w) (o1 := .cells #[.int .i64 x1, .int .i64 x2, .int .i64 x3, .int .i64 x4] 30) (o2 := .cells #[.int .i64 0, .int .i64 0, .int .i64 0] 34) hb1
      obtain ⟨⟨r1, r2, r3⟩, f1, f2, f3⟩ := cells3 k2
      obtain ⟨d1, d2, d3, d4⟩ := cells4 k1
      have hl := cell_lt r1
      have hl0 := cell_lt d1
      clear k1 k2 hb1
      cases q1 : inB x1 2097152
      case' true => cases q2 : inB x2 2097152
      case' true.true => cases q3 : inB x3 2097152
      case' true.true.true => cases q4 : inB x4 2097152
      case true.true.true.true =>
        rw [q1, q2, q3, q4] at hwi
        cases hwi
      all_goals
        clear hwi
        go_wp2_with (go_at_call 19; refine (in_any _ _ _ (by omega) (by omega)).mono ?_; rintro e w' ⟨rfl, rfl⟩)
        exact bodyPost_ret (v := .tuple #[clV (0, 0, 0), .int .i64 1]) (by simp [results, Tryz.results6, go_sem, *]) rfl ⟨rfl, (by repeat (first | with_reducible exact Below.refl _ _ | with_reducible assumption | with_reducible apply Ba | with_reducible apply Bd | with_reducible apply Bn | with_reducible apply Bg | (with_reducible refine Bs ?_ (by first | (simp; done) | (simp; omega)) _) | (with_reducible refine Bt ?_ (by assumption)) | (with_reducible refine Bt ?_ (Gr.below (by assumption)))))⟩
    · obtain ⟨w1', w2', w3', w4', w5', w6', w7', w8'⟩ := okW_iff.1 hW
      dsimp only at w1' w2' w3' w4' w5' w6' w7' w8'
      rw [hW] at hwi
      have hwi2 := hwi.symm
      simp only [Bool.and_eq_true] at hwi2
      obtain ⟨q1, q2, q3, q4⟩ := hwi2
      have HV : Hid (cellE (x1, x2, x3, x4) = cellB (x1, x2, x3, x4) ∧ errB (x1, x2, x3, x4) = 0) := ⟨by simp [cellE, errB, hR, hW], by simp [errB, hR, hW]⟩
      rw [HV.out.1, HV.out.2]
      clear HV hR hW hwi r1' r2' r3' r4' r5' r6' r7' r8'
      go_enter Tryz.func6, Tryz.ntmps6
      go_wp2_with fail
      refine (RR.out _).mono ?_
      rintro e w1 ⟨rfl, hb1⟩
      have B1 := Lib.hid (Bt (Ba (Ba (Below.refl _ w) (.cells #[.int .i64 x1, .int .i64 x2, .int .i64 x3, .int .i64 x4] 30)) (.cells #[.int .i64 0, .int .i64 0, .int .i64 0] 34)) hb1)
      obtain ⟨k1, k2⟩ := three_blk (w := w) (o1 := .cells #[.int .i64 x1, .int .i64 x2, .int .i64 x3, .int .i64 x4] 30) (o2 := .cells #[.int .i64 0, .int .i64 0, .int .i64 0] 34) hb1
      obtain ⟨⟨r1, r2, r3⟩, f1, f2, f3⟩ := cells3 k2
      obtain ⟨d1, d2, d3, d4⟩ := cells4 k1
      have hl := cell_lt r1
      have hl0 := cell_lt d1
      have HD := Lib.hid (And.intro (cells4 k1) (cells3 k2))
      clear k1 k2 hb1
      go_wp2_with (go_at_call 19; refine (in_any _ _ _ (by omega) (by omega)).mono ?_; rintro e w' ⟨rfl, rfl⟩)
      clear r1 r2 r3 f1 f2 f3 d1 d2 d3 d4 q1 q2 q3 q4
      have HL := Lib.hid (And.intro hl0 hl)
      clear hl hl0
      generalize hb0 : w.heap.size = b0 at *
      go_loopw [4, 5] (fun s u wr => ∃ k : Nat, k ≤ 8 ∧ u = .int .i64 ((k : Int) + 1) ∧ s = .int .i64 (dK (x3 - x1) (x4 - x2) k : Nat) ∧ Gr w1 wr) (fun _ u _ => 9 - (intOf u).toNat)
      case atStart => exact ⟨0, by omega, rfl, rfl, Gr.refl _⟩
      case round =>
        obtain ⟨k, hk, rfl, rfl, hg⟩ := hrel
        have HG := Lib.hid hg
        have hb1 := hg.below
        have hl0 : b0 < wr.heap.size := Bl hb1 HL.out.1
        have d1 := Bc hb1 HL.out.1 HD.out.1.1
        have d2 := Bc hb1 HL.out.1 HD.out.1.2.1
        have d3 := Bc hb1 HL.out.1 HD.out.1.2.2.1
        have d4 := Bc hb1 HL.out.1 HD.out.1.2.2.2
        clear hb1 hg
        by_cases hk8 : k < 8
        · have e1 := cell_grown (show (⟨b0, 0, none⟩ : Addr).block < wr.heap.size from hl0) d1
          have e2 := cell_grown (show (⟨b0, 1, none⟩ : Addr).block < wr.heap.size from hl0) d2
          have e3 := cell_grown (show (⟨b0, 2, none⟩ : Addr).block < wr.heap.size from hl0) d3
          have e4 := cell_grown (show (⟨b0, 3, none⟩ : Addr).block < wr.heap.size from hl0) d4
          have hc := fun n os => rside1 k hk8 (grow (wr.drewN n) os)
          have HST := Lib.hid (dK_step (x3 - x1) (x4 - x2) k)
          have hcS := fun W => rside1 k hk8 W
          generalize sideI (k + 1) = S at *
          have HCS := Lib.hid hcS
          clear hcS
          have hw1 : IntKind.i64.wrap (x3 - x1) = x3 - x1 := IntWalk.i64_in _ (by omega)
          have hw2 : IntKind.i64.wrap (x4 - x2) = x4 - x2 := IntWalk.i64_in _ (by omega)
          by_cases hA : x3 - x1 ≤ S
          · by_cases hB : x4 - x2 ≤ S
            · have HS2 := Lib.hid (HST.out.trans (if_pos ⟨hA, hB⟩))
              have hdA : decide (IntKind.i64.wrap (x3 - x1) ≤ S) = true := by rw [hw1]; exact decide_eq_true hA
              have hdB : decide (IntKind.i64.wrap (x4 - x2) ≤ S) = true := by rw [hw2]; exact decide_eq_true hB
              go_wp2_with fail
              go_quiet_grown (first | (go_at_call 20; refine Calls.grown_of (hc _ _)))
              go_wp2
              go_roundw
              case measure => simp [intOf]; omega
              case rel => exact ⟨k + 1, by omega, by go_num, by rw [HS2.out]; go_num, (HG.out.drewN).grow⟩
            · have HS2 := Lib.hid (HST.out.trans (if_neg (fun h => hB h.2)))
              have hdA : decide (IntKind.i64.wrap (x3 - x1) ≤ S) = true := by rw [hw1]; exact decide_eq_true hA
              have hdB : decide (IntKind.i64.wrap (x4 - x2) ≤ S) = false := by rw [hw2]; exact decide_eq_false hB
              go_wp2_with fail
              go_quiet_grown (first | (go_at_call 20; refine Calls.grown_of (hc _ _)))
              go_wp2
              go_roundw
              case measure => simp [intOf]; omega
              case rel => exact ⟨k + 1, by omega, by go_num, by rw [HS2.out], (HG.out.drewN).grow⟩
          · have HS2 := Lib.hid (HST.out.trans (if_neg (fun h => hA h.1)))
            have hdA : decide (IntKind.i64.wrap (x3 - x1) ≤ S) = false := by rw [hw1]; exact decide_eq_false hA
            have hdC : decide (x3 - x1 ≤ S) = false := decide_eq_false hA
            clear hA HST hc e1 e2 e3 e4
            go_wp2_with fail
            refine wp_region_held_drew (S := fun W => Gr wr W ∧ W.cell? ⟨b0, 0, none⟩ = some (.int .i64 x1) ∧ W.cell? ⟨b0, 2, none⟩ = some (.int .i64 x3)) (by kernel_rfl) ⟨(Gr.refl _).drew, d1, d3⟩ (fun hHeld => ?_)
            (refine wpAnyH_take (i := 0) (v := ?_) rfl (by kernel_rfl) (by kernel_rfl) (by kernel_rfl) (fun _ _ _ h => h) (Or.inl ⟨by rfl, ?rt⟩) (by assumption) ?_; case rt => (intro w hSw; (try dsimp only at hSw); go_simp; (try with_reducible rfl))); (try simp only [Act.put, List.getElem_toArray, List.getElem_cons_succ, List.getElem_cons_zero, List.setIfInBounds_toArray, List.set_cons_zero, List.set_cons_succ])
            (refine wpAnyH_take (i := 2) (v := ?_) rfl (by kernel_rfl) (by kernel_rfl) (by kernel_rfl) (fun _ _ _ h => h) (Or.inl ⟨by rfl, ?rt⟩) (by assumption) ?_; case rt => (intro w hSw; (try dsimp only at hSw); go_simp; (try with_reducible rfl))); (try simp only [Act.put, List.getElem_toArray, List.getElem_cons_succ, List.getElem_cons_zero, List.setIfInBounds_toArray, List.set_cons_zero, List.set_cons_succ])
            (refine wpAnyH_take (i := 3) (v := ?_) rfl (by kernel_rfl) (by kernel_rfl) (by kernel_rfl) (fun _ _ _ h => h) (Or.inl ⟨by rfl, ?rt⟩) (by assumption) ?_; case rt => (intro w hSw; (try dsimp only at hSw); go_simp; (try with_reducible rfl))); (try simp only [Act.put, List.getElem_toArray, List.getElem_cons_succ, List.getElem_cons_zero, List.setIfInBounds_toArray, List.set_cons_zero, List.set_cons_succ])
            (refine wpAnyH_take (i := 4) (v := ?_) rfl (by kernel_rfl) (by kernel_rfl) (by kernel_rfl) (fun _ _ _ h => h) (Or.inl ⟨by rfl, ?rt⟩) (by assumption) ?_; case rt => (intro w hSw; (try dsimp only at hSw); go_simp; (try with_reducible rfl))); (try simp only [Act.put, List.getElem_toArray, List.getElem_cons_succ, List.getElem_cons_zero, List.setIfInBounds_toArray, List.set_cons_zero, List.set_cons_succ])
            (refine wpAnyH_take (i := 5) (v := ?_) rfl (by kernel_rfl) (by kernel_rfl) (by kernel_rfl) (fun _ _ _ h => h) (Or.inl ⟨by rfl, ?rt⟩) (by assumption) ?_; case rt => (intro w hSw; (try dsimp only at hSw); go_simp; (try with_reducible rfl))); (try simp only [Act.put, List.getElem_toArray, List.getElem_cons_succ, List.getElem_cons_zero, List.setIfInBounds_toArray, List.set_cons_zero, List.set_cons_succ])
            (refine wpAnyH_take (i := 6) (v := ?_) rfl (by kernel_rfl) (by kernel_rfl) (by kernel_rfl) (fun _ _ _ h => h) (Or.inl ⟨by rfl, ?rt⟩) (by assumption) ?_; case rt => (intro w hSw; (try dsimp only at hSw); go_simp; (try with_reducible rfl))); (try simp only [Act.put, List.getElem_toArray, List.getElem_cons_succ, List.getElem_cons_zero, List.setIfInBounds_toArray, List.set_cons_zero, List.set_cons_succ])
            (try simp only [hw1])
            (refine wpAnyH_ready (rs := [1]) (by kernel_rfl) (by simp) ?_; refine AllReadyH.cons rfl (fun K hK => ?_) AllReadyH.nil; go_simp; refine (HCS.out _).mono ?_; rintro e w1 ⟨rfl, hg1⟩; refine hK.out _ _ ⟨hHeld.1.trans hg1, Bc hg1.below (cell_lt hHeld.2.1) hHeld.2.1, Bc hg1.below (cell_lt hHeld.2.2) hHeld.2.2⟩ (fun hHeld => ?_); clear hK K); (try simp only [Act.put, List.getElem_toArray, List.getElem_cons_succ, List.getElem_cons_zero, List.setIfInBounds_toArray, List.set_cons_zero, List.set_cons_succ])
            (refine wpAnyH_take (i := 7) (v := ?_) rfl (by kernel_rfl) (by kernel_rfl) (by kernel_rfl) (fun _ _ _ h => h) (Or.inl ⟨by rfl, ?rt⟩) (by assumption) ?_; case rt => (intro w hSw; (try dsimp only at hSw); go_simp; (try with_reducible rfl))); (try simp only [Act.put, List.getElem_toArray, List.getElem_cons_succ, List.getElem_cons_zero, List.setIfInBounds_toArray, List.set_cons_zero, List.set_cons_succ])
            (try simp only [hdA, hdC])
            (refine wpAnyH_take (i := 8) (v := ?_) rfl (by kernel_rfl) (by kernel_rfl) (by kernel_rfl) (fun _ _ _ h => h) (Or.inl ⟨by rfl, ?rt⟩) (by assumption) ?_; case rt => (intro w hSw; (try dsimp only at hSw); go_simp; (try with_reducible rfl))); (try simp only [Act.put, List.getElem_toArray, List.getElem_cons_succ, List.getElem_cons_zero, List.setIfInBounds_toArray, List.set_cons_zero, List.set_cons_succ])
            refine wpAnyH_take (i := 9) (v := undef) rfl (by kernel_rfl) (by kernel_rfl) (by kernel_rfl) (fun _ _ _ h => h) (Or.inr ⟨by rfl, rfl⟩) (by assumption) ?_; (try simp only [Act.put, List.getElem_toArray, List.getElem_cons_succ, List.getElem_cons_zero, List.setIfInBounds_toArray, List.set_cons_zero, List.set_cons_succ])
            refine wpAnyH_take (i := 10) (v := undef) rfl (by kernel_rfl) (by kernel_rfl) (by kernel_rfl) (fun _ _ _ h => h) (Or.inr ⟨by rfl, rfl⟩) (by assumption) ?_; (try simp only [Act.put, List.getElem_toArray, List.getElem_cons_succ, List.getElem_cons_zero, List.setIfInBounds_toArray, List.set_cons_zero, List.set_cons_succ])
            refine wpAnyH_take (i := 11) (v := undef) rfl (by kernel_rfl) (by kernel_rfl) (by kernel_rfl) (fun _ _ _ h => h) (Or.inr ⟨by rfl, rfl⟩) (by assumption) ?_; (try simp only [Act.put, List.getElem_toArray, List.getElem_cons_succ, List.getElem_cons_zero, List.setIfInBounds_toArray, List.set_cons_zero, List.set_cons_succ])
            refine wpAnyH_take (i := 12) (v := undef) rfl (by kernel_rfl) (by kernel_rfl) (by kernel_rfl) (fun _ _ _ h => h) (Or.inr ⟨by rfl, rfl⟩) (by assumption) ?_; (try simp only [Act.put, List.getElem_toArray, List.getElem_cons_succ, List.getElem_cons_zero, List.setIfInBounds_toArray, List.set_cons_zero, List.set_cons_succ])
            refine wpAnyH_take (i := 13) (v := undef) rfl (by kernel_rfl) (by kernel_rfl) (by kernel_rfl) (fun _ _ _ h => h) (Or.inr ⟨by rfl, rfl⟩) (by assumption) ?_; (try simp only [Act.put, List.getElem_toArray, List.getElem_cons_succ, List.getElem_cons_zero, List.setIfInBounds_toArray, List.set_cons_zero, List.set_cons_succ])
            refine wpAnyH_take (i := 14) (v := undef) rfl (by kernel_rfl) (by kernel_rfl) (by kernel_rfl) (fun _ _ _ h => h) (Or.inr ⟨by rfl, rfl⟩) (by assumption) ?_; (try simp only [Act.put, List.getElem_toArray, List.getElem_cons_succ, List.getElem_cons_zero, List.setIfInBounds_toArray, List.set_cons_zero, List.set_cons_succ])
            refine wpAnyH_take (i := 15) (v := undef) rfl (by kernel_rfl) (by kernel_rfl) (by kernel_rfl) (fun _ _ _ h => h) (Or.inr ⟨by rfl, rfl⟩) (by assumption) ?_; (try simp only [Act.put, List.getElem_toArray, List.getElem_cons_succ, List.getElem_cons_zero, List.setIfInBounds_toArray, List.set_cons_zero, List.set_cons_succ])
            refine wpAnyH_take (i := 16) (v := undef) rfl (by kernel_rfl) (by kernel_rfl) (by kernel_rfl) (fun _ _ _ h => h) (Or.inr ⟨by rfl, rfl⟩) (by assumption) ?_; (try simp only [Act.put, List.getElem_toArray, List.getElem_cons_succ, List.getElem_cons_zero, List.setIfInBounds_toArray, List.set_cons_zero, List.set_cons_succ])
            (refine wpAnyH_take (i := 17) (v := ?_) rfl (by kernel_rfl) (by kernel_rfl) (by kernel_rfl) (fun _ _ _ h => h) (Or.inl ⟨by rfl, ?rt⟩) (by assumption) ?_; case rt => (intro w hSw; (try dsimp only at hSw); go_simp; (try with_reducible rfl))); (try simp only [Act.put, List.getElem_toArray, List.getElem_cons_succ, List.getElem_cons_zero, List.setIfInBounds_toArray, List.set_cons_zero, List.set_cons_succ])
            refine wpAnyH_done (by kernel_rfl) ?_ _
            clear hdA hdC hw1 hw2
            have HG2 := Lib.hid (HG.out.trans hHeld.1)
            go_wp2
            go_roundw
            case measure => simp [intOf]; omega
            case rel => exact ⟨k + 1, by omega, by go_num, by rw [HS2.out], HG2.out⟩
        · obtain rfl : k = 8 := by omega
          have hD8 : dK (x3 - x1) (x4 - x2) 8 ≤ 8 := dK_le _ _ 8
          have HCE : Hid (clV (cellB (x1, x2, x3, x4)) = clV ((dK (x3 - x1) (x4 - x2) 8 : Nat), colI (halfI (x1 + x3)) (dK (x3 - x1) (x4 - x2) 8), colI (halfI (x2 + x4)) (dK (x3 - x1) (x4 - x2) 8))) := Lib.hid rfl
          generalize dK (x3 - x1) (x4 - x2) 8 = D at *
          have hh1 : -2097152 ≤ halfI (x1 + x3) ∧ halfI (x1 + x3) ≤ 2097152 := by unfold halfI; omega
          have hh2 : -2097152 ≤ halfI (x2 + x4) ∧ halfI (x2 + x4) ≤ 2097152 := by unfold halfI; omega
          have KH1 := Lib.hid (fun W => rhalf_any (x1 + x3) W (by omega) (by omega))
          have KH2 := Lib.hid (fun W => rhalf_any (x2 + x4) W (by omega) (by omega))
          have KC1 := Lib.hid (fun W => rcolumn_call (halfI (x1 + x3)) D hD8 hh1.1 hh1.2 W)
          have KC2 := Lib.hid (fun W => rcolumn_call (halfI (x2 + x4)) D hD8 hh2.1 hh2.2 W)
          have hw1 : IntKind.i64.wrap (x1 + x3) = x1 + x3 := IntWalk.i64_in _ (by omega)
          have hw2 : IntKind.i64.wrap (x2 + x4) = x2 + x4 := IntWalk.i64_in _ (by omega)
          have BW := Lib.hid (Bt (show RowKit.Below w.heap.size w w1 by rw [hb0]; exact B1.out) HG.out.below)
          have hr1 := Bl HG.out.below HL.out.2
          have r1 := Bc HG.out.below HL.out.2 HD.out.2.1.1
          have r2 := Bc HG.out.below HL.out.2 HD.out.2.1.2.1
          have r3 := Bc HG.out.below HL.out.2 HD.out.2.1.2.2
          have f1 := Bf HG.out.below HL.out.2 HD.out.2.2.1
          have f2 := Bf HG.out.below HL.out.2 HD.out.2.2.2.1
          have f3 := Bf HG.out.below HL.out.2 HD.out.2.2.2.2
          clear hk8 hk hh1 hh2
          go_wp2_with fail
          clear HG
          refine wp_region_held_drew (S := fun W => W.cell? ⟨b0, 0, none⟩ = some (.int .i64 x1) ∧ W.cell? ⟨b0, 1, none⟩ = some (.int .i64 x2) ∧ W.cell? ⟨b0, 2, none⟩ = some (.int .i64 x3) ∧ W.cell? ⟨b0, 3, none⟩ = some (.int .i64 x4)) (by kernel_rfl) ⟨d1, d2, d3, d4⟩ (fun hHeld => ?_)
          (refine wpAnyH_take (i := 0) (v := ?_) rfl (by kernel_rfl) (by kernel_rfl) (by kernel_rfl) (fun _ _ _ h => h) (Or.inl ⟨by rfl, ?rt⟩) (by assumption) ?_; case rt => (intro w hSw; (try dsimp only at hSw); go_simp; (try with_reducible rfl))); (try simp only [Act.put, List.getElem_toArray, List.getElem_cons_succ, List.getElem_cons_zero, List.setIfInBounds_toArray, List.set_cons_zero, List.set_cons_succ])
          (refine wpAnyH_take (i := 1) (v := ?_) rfl (by kernel_rfl) (by kernel_rfl) (by kernel_rfl) (fun _ _ _ h => h) (Or.inl ⟨by rfl, ?rt⟩) (by assumption) ?_; case rt => (intro w hSw; (try dsimp only at hSw); go_simp; (try with_reducible rfl))); (try simp only [Act.put, List.getElem_toArray, List.getElem_cons_succ, List.getElem_cons_zero, List.setIfInBounds_toArray, List.set_cons_zero, List.set_cons_succ])
          (refine wpAnyH_take (i := 2) (v := ?_) rfl (by kernel_rfl) (by kernel_rfl) (by kernel_rfl) (fun _ _ _ h => h) (Or.inl ⟨by rfl, ?rt⟩) (by assumption) ?_; case rt => (intro w hSw; (try dsimp only at hSw); go_simp; (try with_reducible rfl))); (try simp only [Act.put, List.getElem_toArray, List.getElem_cons_succ, List.getElem_cons_zero, List.setIfInBounds_toArray, List.set_cons_zero, List.set_cons_succ])
          (refine wpAnyH_take (i := 3) (v := ?_) rfl (by kernel_rfl) (by kernel_rfl) (by kernel_rfl) (fun _ _ _ h => h) (Or.inl ⟨by rfl, ?rt⟩) (by assumption) ?_; case rt => (intro w hSw; (try dsimp only at hSw); go_simp; (try with_reducible rfl))); (try simp only [Act.put, List.getElem_toArray, List.getElem_cons_succ, List.getElem_cons_zero, List.setIfInBounds_toArray, List.set_cons_zero, List.set_cons_succ])
          (refine wpAnyH_take (i := 4) (v := ?_) rfl (by kernel_rfl) (by kernel_rfl) (by kernel_rfl) (fun _ _ _ h => h) (Or.inl ⟨by rfl, ?rt⟩) (by assumption) ?_; case rt => (intro w hSw; (try dsimp only at hSw); go_simp; (try with_reducible rfl))); (try simp only [Act.put, List.getElem_toArray, List.getElem_cons_succ, List.getElem_cons_zero, List.setIfInBounds_toArray, List.set_cons_zero, List.set_cons_succ])
          (refine wpAnyH_take (i := 5) (v := ?_) rfl (by kernel_rfl) (by kernel_rfl) (by kernel_rfl) (fun _ _ _ h => h) (Or.inl ⟨by rfl, ?rt⟩) (by assumption) ?_; case rt => (intro w hSw; (try dsimp only at hSw); go_simp; (try with_reducible rfl))); (try simp only [Act.put, List.getElem_toArray, List.getElem_cons_succ, List.getElem_cons_zero, List.setIfInBounds_toArray, List.set_cons_zero, List.set_cons_succ])
          (try simp only [hw1])
          (refine wpAnyH_take (i := 7) (v := ?_) rfl (by kernel_rfl) (by kernel_rfl) (by kernel_rfl) (fun _ _ _ h => h) (Or.inl ⟨by rfl, ?rt⟩) (by assumption) ?_; case rt => (intro w hSw; (try dsimp only at hSw); go_simp; (try with_reducible rfl))); (try simp only [Act.put, List.getElem_toArray, List.getElem_cons_succ, List.getElem_cons_zero, List.setIfInBounds_toArray, List.set_cons_zero, List.set_cons_succ])
          (refine wpAnyH_take (i := 9) (v := ?_) rfl (by kernel_rfl) (by kernel_rfl) (by kernel_rfl) (fun _ _ _ h => h) (Or.inl ⟨by rfl, ?rt⟩) (by assumption) ?_; case rt => (intro w hSw; (try dsimp only at hSw); go_simp; (try with_reducible rfl))); (try simp only [Act.put, List.getElem_toArray, List.getElem_cons_succ, List.getElem_cons_zero, List.setIfInBounds_toArray, List.set_cons_zero, List.set_cons_succ])
          (refine wpAnyH_take (i := 10) (v := ?_) rfl (by kernel_rfl) (by kernel_rfl) (by kernel_rfl) (fun _ _ _ h => h) (Or.inl ⟨by rfl, ?rt⟩) (by assumption) ?_; case rt => (intro w hSw; (try dsimp only at hSw); go_simp; (try with_reducible rfl))); (try simp only [Act.put, List.getElem_toArray, List.getElem_cons_succ, List.getElem_cons_zero, List.setIfInBounds_toArray, List.set_cons_zero, List.set_cons_succ])
          (refine wpAnyH_take (i := 11) (v := ?_) rfl (by kernel_rfl) (by kernel_rfl) (by kernel_rfl) (fun _ _ _ h => h) (Or.inl ⟨by rfl, ?rt⟩) (by assumption) ?_; case rt => (intro w hSw; (try dsimp only at hSw); go_simp; (try with_reducible rfl))); (try simp only [Act.put, List.getElem_toArray, List.getElem_cons_succ, List.getElem_cons_zero, List.setIfInBounds_toArray, List.set_cons_zero, List.set_cons_succ])
          (refine wpAnyH_take (i := 12) (v := ?_) rfl (by kernel_rfl) (by kernel_rfl) (by kernel_rfl) (fun _ _ _ h => h) (Or.inl ⟨by rfl, ?rt⟩) (by assumption) ?_; case rt => (intro w hSw; (try dsimp only at hSw); go_simp; (try with_reducible rfl))); (try simp only [Act.put, List.getElem_toArray, List.getElem_cons_succ, List.getElem_cons_zero, List.setIfInBounds_toArray, List.set_cons_zero, List.set_cons_succ])
          (refine wpAnyH_take (i := 13) (v := ?_) rfl (by kernel_rfl) (by kernel_rfl) (by kernel_rfl) (fun _ _ _ h => h) (Or.inl ⟨by rfl, ?rt⟩) (by assumption) ?_; case rt => (intro w hSw; (try dsimp only at hSw); go_simp; (try with_reducible rfl))); (try simp only [Act.put, List.getElem_toArray, List.getElem_cons_succ, List.getElem_cons_zero, List.setIfInBounds_toArray, List.set_cons_zero, List.set_cons_succ])
          (try simp only [hw2])
          (refine wpAnyH_take (i := 15) (v := ?_) rfl (by kernel_rfl) (by kernel_rfl) (by kernel_rfl) (fun _ _ _ h => h) (Or.inl ⟨by rfl, ?rt⟩) (by assumption) ?_; case rt => (intro w hSw; (try dsimp only at hSw); go_simp; (try with_reducible rfl))); (try simp only [Act.put, List.getElem_toArray, List.getElem_cons_succ, List.getElem_cons_zero, List.setIfInBounds_toArray, List.set_cons_zero, List.set_cons_succ])
          (refine wpAnyH_ready (rs := [6]) (by kernel_rfl) (by simp) ?_; refine AllReadyH.cons rfl (fun K hK => ?_) AllReadyH.nil; go_simp; refine (KH1.out _).mono ?_; rintro e w1 ⟨rfl, rfl⟩; refine hK.out _ _ hHeld (fun hHeld => ?_); clear hK K); (try simp only [Act.put, List.getElem_toArray, List.getElem_cons_succ, List.getElem_cons_zero, List.setIfInBounds_toArray, List.set_cons_zero, List.set_cons_succ])
          (refine wpAnyH_ready (rs := [8]) (by kernel_rfl) (by simp) ?_; refine AllReadyH.cons rfl (fun K hK => ?_) AllReadyH.nil; go_simp; refine (KC1.out _).mono ?_; rintro e w1 ⟨rfl, rfl⟩; refine hK.out _ _ hHeld (fun hHeld => ?_); clear hK K); (try simp only [Act.put, List.getElem_toArray, List.getElem_cons_succ, List.getElem_cons_zero, List.setIfInBounds_toArray, List.set_cons_zero, List.set_cons_succ])
          (refine wpAnyH_ready (rs := [14]) (by kernel_rfl) (by simp) ?_; refine AllReadyH.cons rfl (fun K hK => ?_) AllReadyH.nil; go_simp; refine (KH2.out _).mono ?_; rintro e w1 ⟨rfl, rfl⟩; refine hK.out _ _ hHeld (fun hHeld => ?_); clear hK K); (try simp only [Act.put, List.getElem_toArray, List.getElem_cons_succ, List.getElem_cons_zero, List.setIfInBounds_toArray, List.set_cons_zero, List.set_cons_succ])
          (refine wpAnyH_ready (rs := [16]) (by kernel_rfl) (by simp) ?_; refine AllReadyH.cons rfl (fun K hK => ?_) AllReadyH.nil; go_simp; refine (KC2.out _).mono ?_; rintro e w1 ⟨rfl, rfl⟩; refine hK.out _ _ hHeld (fun hHeld => ?_); clear hK K); (try simp only [Act.put, List.getElem_toArray, List.getElem_cons_succ, List.getElem_cons_zero, List.setIfInBounds_toArray, List.set_cons_zero, List.set_cons_succ])
          (refine wpAnyH_take (i := 17) (v := ?_) rfl (by kernel_rfl) (by kernel_rfl) (by kernel_rfl) (fun _ _ _ h => h) (Or.inl ⟨by rfl, ?rt⟩) (by assumption) ?_; case rt => (intro w hSw; (try dsimp only at hSw); go_simp; (try with_reducible rfl))); (try simp only [Act.put, List.getElem_toArray, List.getElem_cons_succ, List.getElem_cons_zero, List.setIfInBounds_toArray, List.set_cons_zero, List.set_cons_succ])
          (refine wpAnyH_ready (rs := [18]) (by kernel_rfl) (by simp) ?_; refine AllReadyH.cons rfl (fun K hK => ?_) AllReadyH.nil; go_simp)
          refine hK.out _ _ ?st (fun hHeld => ?_)
          case st => exact ⟨by go_simp, by go_simp, by go_simp, by go_simp⟩
          clear hK K
          (try simp only [Act.put, List.getElem_toArray, List.getElem_cons_succ, List.getElem_cons_zero, List.setIfInBounds_toArray, List.set_cons_zero, List.set_cons_succ])
          (refine wpAnyH_take (i := 19) (v := ?_) rfl (by kernel_rfl) (by kernel_rfl) (by kernel_rfl) (fun _ _ _ h => h) (Or.inl ⟨by rfl, ?rt⟩) (by assumption) ?_; case rt => (intro w hSw; (try dsimp only at hSw); go_simp; (try with_reducible rfl))); (try simp only [Act.put, List.getElem_toArray, List.getElem_cons_succ, List.getElem_cons_zero, List.setIfInBounds_toArray, List.set_cons_zero, List.set_cons_succ])
          refine wpAnyH_done (by kernel_rfl) ?_ _
          clear KH1 KH2 KC1 KC2
          have HBW := BW.out
          have hb01 : w.heap.size ≤ b0 + 1 := by omega
          go_wp2
          exact bodyPost_ret (v := .tuple #[clV (D, colI (halfI (x1 + x3)) D, colI (halfI (x2 + x4)) D), .int .i64 0]) (by simp [results, Tryz.results6, go_sem, *]) rfl ⟨by rw [HCE.out], Bs (Bs (Bs (Bd HBW) hb01 _) hb01 _) hb01 _⟩
end Go.Proofs.YtlnncnbahmgpfaaGreatDoor

/-
  The reference: Right, Loose.
-/
namespace Go.Proofs.YtlnncnbahmgpfaaGreatDoor
set_option linter.unusedSimpArgs false
set_option linter.unusedVariables false
open Go.RowKit Go.Sort Go.Lib Go.Shelf

theorem cells3' {w : World} {t : TypeId} {a1 a2 a3 : Value} : (w.alloc (.cells #[a1, a2, a3] t)).cell? ⟨w.heap.size, 0, none⟩ = some a1 ∧ (w.alloc (.cells #[a1, a2, a3] t)).cell? ⟨w.heap.size, 1, none⟩ = some a2 ∧ (w.alloc (.cells #[a1, a2, a3] t)).cell? ⟨w.heap.size, 2, none⟩ = some a3 := ⟨by simp, by simp, by simp⟩
abbrev bxV (b : Bx4) : Value := .agg #[.int .i64 b.1, .int .i64 b.2.1, .int .i64 b.2.2.1, .int .i64 b.2.2.2]
theorem right_parts {c1 c2 c3 : Int} (h : rightC (c1, c2, c3) = true) : ∃ k : Nat, c1 = (k : Int) ∧ k ≤ 8 ∧ 0 ≤ c2 ∧ 0 ≤ c3 ∧ c2 < pwI k ∧ c3 < pwI k := by
  unfold rightC at h
  simp only [Bool.and_eq_true, decide_eq_true_eq] at h
  obtain ⟨⟨⟨⟨⟨h1, h2⟩, h3⟩, h4⟩, h5⟩, h6⟩ := h
  exact ⟨c1.toNat, by omega, by omega, h3, h4, h5, h6⟩
theorem mul_side {x : Int} {k : Nat} (hk : k ≤ 8) (h0 : 0 ≤ x) (h1 : x < pwI k) : 0 ≤ x * sideI k ∧ x * sideI k ≤ 4194304 := by
  obtain ⟨s1, s2, s3, s4, s5⟩ := side_pw hk
  have h2 := Int.mul_le_mul_of_nonneg_right (show x ≤ pwI k by omega) (show 0 ≤ sideI k by omega)
  have h3 := Int.mul_nonneg h0 (show 0 ≤ sideI k by omega)
  rw [Int.mul_comm (pwI k)] at h2
  omega
end Go.Proofs.YtlnncnbahmgpfaaGreatDoor

/-
  The reference: Meeting.
-/
namespace Go.Proofs.YtlnncnbahmgpfaaGreatDoor
set_option linter.unusedSimpArgs false
set_option linter.unusedVariables false
open Go.RowKit Go.Sort Go.Lib Go.Shelf

theorem rmeets_4 (a q : Bx4) : rmeetsB a.1 a.2.1 a.2.2.1 a.2.2.2 q.1 q.2.1 q.2.2.1 q.2.2.2 = meets4 a q := rfl
def mtL (B : List Bxd) (q : Bx4) : List Hd := (B.filter fun b => meets4 b.2 q).map (·.1)
theorem mtL_len (B : List Bxd) (q : Bx4) : (mtL B q).length ≤ B.length := by
  unfold mtL
  rw [List.length_map]
  exact List.length_filter_le _ _
set_option maxHeartbeats 2000000 in
set_option maxRecDepth 100000 in
theorem rMeeting_call (B : List Bxd) (v : Value) (q1 q2 q3 q4 : Int) (w : World) (hl : Sl encBx w v B) (hn : B.length ≤ 100) :
    Calls Tryz.prog 16 #[v, .agg #[.int .i64 q1, .int .i64 q2, .int .i64 q3, .int .i64 q4]] w fun e w' => ∃ v', e = .returned v' ∧ w'.ownsRow w.heap.size 28 2 v' (meetL B (q1, q2, q3, q4)).length (flat encH (meetL B (q1, q2, q3, q4))) ∧ RowKit.Below w.heap.size w w' := by
  have RP := Lib.hid (fun (v : Value) (w' : World) (h : Sl encH w' v (mtL B (q1, q2, q3, q4))) => rhandles_call (mtL B (q1, q2, q3, q4)) v w' h (by have := mtL_len B (q1, q2, q3, q4); omega))
  obtain ⟨p0, c0, rfl, v1, v2, v3⟩ := hl
  unfold maxLen at v2
  have HV := Lib.hid v3
  have hz : (B.length : Int) ≤ 100 := by omega
  clear v3
  obtain ⟨w1, hw1⟩ : ∃ w1, w1 = w.alloc (.cells #[.int .i64 q1, .int .i64 q2, .int .i64 q3, .int .i64 q4] 30) := ⟨_, rfl⟩
  have H1 : Hid ((w1.cell? ⟨w.heap.size, 0, none⟩ = some (.int .i64 q1) ∧ w1.cell? ⟨w.heap.size, 1, none⟩ = some (.int .i64 q2) ∧ w1.cell? ⟨w.heap.size, 2, none⟩ = some (.int .i64 q3) ∧ w1.cell? ⟨w.heap.size, 3, none⟩ = some (.int .i64 q4)) ∧ w.heap.size < w1.heap.size ∧ RowKit.Below w.heap.size w w1) := by rw [hw1]; exact ⟨⟨by simp, by simp, by simp, by simp⟩, by simp, Ba (Below.refl _ _) _⟩
  have HW := Lib.hid hw1
  clear hw1
  go_enter Tryz.func16, Tryz.ntmps16
  go_wp2
  go_loopw [5, 11] (fun v i wr => ∃ k : Nat, k ≤ B.length ∧ i = .int .i64 k ∧ RowKit.Below w1.heap.size w1 wr ∧ wr.ownsRow w1.heap.size 28 2 v (mtL (B.take k) (q1, q2, q3, q4)).length (flat encH (mtL (B.take k) (q1, q2, q3, q4)))) (fun _ i _ => B.length - (intOf i).toNat)
  case atStart => rw [← HW.out, ← show w1.heap.size = w.heap.size + 1 by rw [HW.out]; simp]; exact ⟨0, Nat.zero_le _, rfl, Ba (Below.refl _ _) _, World.ownsRow_made w1 #[] 0 (Nat.le_refl _) (Nat.zero_le _) (by simp)⟩
  case round =>
    obtain ⟨k, hk, rfl, hb, ho⟩ := hrel
    have HO := Lib.hid ho
    have HB := Lib.hid hb
    clear ho hb
    by_cases hkn : k < B.length
    · obtain ⟨g0, o0, rfl, hg1, hg2⟩ := HV.out (by omega)
      obtain ⟨c1, c2, c3, c4, c5, c6⟩ := atBx hg2 hkn
      replace c1 := Bc (Bt H1.out.2.2 HB.out) hg1 c1
      replace c2 := Bc (Bt H1.out.2.2 HB.out) hg1 c2
      replace c3 := Bc (Bt H1.out.2.2 HB.out) hg1 c3
      replace c4 := Bc (Bt H1.out.2.2 HB.out) hg1 c4
      replace c5 := Bc (Bt H1.out.2.2 HB.out) hg1 c5
      replace c6 := Bc (Bt H1.out.2.2 HB.out) hg1 c6
      have a1 := Bc HB.out H1.out.2.1 H1.out.1.1
      have a2 := Bc HB.out H1.out.2.1 H1.out.1.2.1
      have a3 := Bc HB.out H1.out.2.1 H1.out.1.2.2.1
      have a4 := Bc HB.out H1.out.2.1 H1.out.1.2.2.2
      have hal : w.heap.size < wr.heap.size := Bl HB.out H1.out.2.1
      have et := Lib.hid (meetL_take hkn (q1, q2, q3, q4))
      have hlt : (mtL (B.take k) (q1, q2, q3, q4)).length ≤ 100 := by
        have h1 := mtL_len (B.take k) (q1, q2, q3, q4)
        have h2 : (B.take k).length ≤ B.length := List.length_take_le' _ _
        omega
      generalize B[k]! = x at *
      obtain ⟨⟨x1, x2⟩, x3, x4, x5, x6⟩ := x
      dsimp only at c1 c2 c3 c4 c5 c6
      clear hg2
      have RM := Lib.hid (fun W => rmeets_any x3 x4 x5 x6 q1 q2 q3 q4 W)
      rw [rmeets_4 (x3, x4, x5, x6) (q1, q2, q3, q4)] at RM
      have hmt : Hid (mtL (B.take (k + 1)) (q1, q2, q3, q4) = mtL (B.take k) (q1, q2, q3, q4) ++ (if meets4 (x3, x4, x5, x6) (q1, q2, q3, q4) = true then [(x1, x2)] else [])) := et
      clear et
      cases hm : meets4 (x3, x4, x5, x6) (q1, q2, q3, q4)
      · rw [hm] at RM hmt
        rw [if_neg (by simp), List.append_nil] at hmt
        have bA := Ba (Below.refl _ wr) (.cells #[.int .i64 x1, .int .i64 x2, .int .i64 x3, .int .i64 x4, .int .i64 x5, .int .i64 x6] 43)
        go_wp2_with fail
        refine (RM.out _).mono ?_
        rintro e w5 ⟨rfl, hb5⟩
        have HO2 := Lib.hid (row_below HO.out (Bt bA hb5))
        have HB2 := Lib.hid (Bt HB.out (Bt bA hb5))
        rw [← hmt.out] at HO2
        clear bA hb5 hm
        go_wp2
        go_roundw
        case measure => simp only [intOf]; omega
        case rel => exact ⟨k + 1, by omega, by go_num, HB2.out, HO2.out⟩
      · rw [hm] at RM hmt
        rw [if_pos rfl] at hmt
        have bA := Ba (Below.refl _ wr) (.cells #[.int .i64 x1, .int .i64 x2, .int .i64 x3, .int .i64 x4, .int .i64 x5, .int .i64 x6] 43)
        have HX := Lib.hid (cells6 (heap_alloc_new wr (.cells #[.int .i64 x1, .int .i64 x2, .int .i64 x3, .int .i64 x4, .int .i64 x5, .int .i64 x6] 43)))
        go_wp2_with fail
        refine (RM.out _).mono ?_
        rintro e w5 ⟨rfl, hb5⟩
        have hwr : wr.heap.size < (wr.alloc (.cells #[.int .i64 x1, .int .i64 x2, .int .i64 x3, .int .i64 x4, .int .i64 x5, .int .i64 x6] 43)).heap.size := by simp
        have y1 := Bc hb5 hwr HX.out.1
        have y2 := Bc hb5 hwr HX.out.2.1
        have bX := Ba (Bt bA hb5) (.cells #[.int .i64 x1, .int .i64 x2] 28)
        have O5 := Lib.hid (row_below HO.out bX)
        have B5 := Lib.hid (Bt HB.out bX)
        have L5 := Lib.hid (sl_lit (enc := encH) (w := w5) (cs := #[.int .i64 x1, .int .i64 x2]) (t := 28) (b := w5.heap.size) [(x1, x2)] rfl rfl (by unfold maxLen; simp))
        clear bA hb5 hm bX hwr HX
        go_wp2_with (at_builtin; refine wpl_app2 apH rfl _ _ rfl w1.heap.size (by rfl) (by rfl) O5.out rfl L5.out (by simp; omega) B5.out.size ?_; intro v7 w7 hown7 hgrow7 hat7 hnil7; have O7 := Lib.hid hown7; have B7 := Lib.hid (grownB B5.out O5.out hgrow7); clear hown7 hgrow7 hat7 hnil7)
        go_roundw
        case measure => simp only [intOf]; omega
        case rel => exact ⟨k + 1, by omega, by go_num, B7.out, by rw [hmt.out]; exact O7.out⟩
    · have hin : k = B.length := by omega
      subst hin
      have HO2 := Lib.hid HO.out
      rw [List.take_length] at HO2
      have RP2 := Lib.hid (RP.out _ _ (row_sl lenH HO2.out rfl))
      have HS := Lib.hid (show w.heap.size ≤ wr.heap.size from Nat.le_trans (Nat.le_of_lt H1.out.2.1) HB.out.size)
      clear HO
      go_wp2_with fail
      refine RP2.out.mono ?_
      rintro e w5 ⟨v5, rfl, ho5, _, hb5⟩
      go_wp2
      go_ret
      exact ⟨_, rfl, row_mono ho5 HS.out, Bt (Bt H1.out.2.2 HB.out) hb5⟩
end Go.Proofs.YtlnncnbahmgpfaaGreatDoor
