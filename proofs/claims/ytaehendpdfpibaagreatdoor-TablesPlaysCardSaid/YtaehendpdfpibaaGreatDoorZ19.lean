import Derived.Test.YtaehendpdfpibaaGreatDoorZ17
import Derived.Sort.WalkC4

/-
  slices.Sort at masks, its pieces: the partition.
-/
namespace Go.Proofs.YtaehendpdfpibaaGreatDoor
set_option linter.unusedSimpArgs false
set_option linter.unusedVariables false
open Go.RowKit Go.Sort Go.Lib Go.Shelf

set_option maxHeartbeats 16000000 in
set_option maxRecDepth 1000000 in
/-- partitionOrdered. -/
theorem partU_call (blk off cap a b pivot : Nat) (d : Array Nat) (w : World) (hH : Holds mU w blk off d) (hap : a ≤ pivot) (hpb : pivot < b) (hb : b ≤ d.size) (hsz : d.size ≤ 1000) :
    Calls Tryz.prog 175 #[slU blk off d.size cap, .int .i64 a, .int .i64 b, .int .i64 pivot] w fun e w' => e = .returned (.tuple #[.int .i64 ((Sort.partition ltU d a b pivot).1 : Nat), .bool (Sort.partition ltU d a b pivot).2.1]) ∧ ∃ n, w' = rowU w n blk off (Sort.partition ltU d a b pivot).2.2 := by
  have mixed : Tryz.prog.follows .mixedOrders = true := by kernel_rfl
  have HH := Lib.hid hH
  have HS := Lib.hid (putRow_self _ _ _ _ _ hH).symm
  have HSw0 := Lib.hid (show ((w.setCell ⟨blk, off + a, none⟩ (.int .u64 (d[pivot]! : Nat))).setCell ⟨blk, off + pivot, none⟩ (.int .u64 (d[a]! : Nat))).drew = rowU w (0 + 1) blk off (swp d a pivot) from swap_world mU (by omega) (by omega) HS.out rfl rfl)
  have c0 : w.cell? ⟨blk, off + a, none⟩ = some (.int .u64 (d[a]! : Nat)) := (hH a (by omega)).1
  have c1 : w.cell? ⟨blk, off + pivot, none⟩ = some (.int .u64 (d[pivot]! : Nat)) := (hH pivot (by omega)).1
  have f0 := (hH a (by omega)).2
  have f1 := (hH pivot (by omega)).2
  have hla : a < d.size := by omega
  have hlp : pivot < d.size := by omega
  generalize d[a]! = x0 at *
  generalize d[pivot]! = y0 at *
  obtain ⟨v', hy'⟩ := cell?_setCell_some (w := w) (p := ⟨blk, off + a, none⟩) (x := .int .u64 (y0 : Nat)) (q := ⟨blk, off + pivot, none⟩) c1
  clear hH
  obtain ⟨d0, hd0⟩ : ∃ d0, d0 = swp d a pivot := ⟨_, rfl⟩
  have hsk : d0.size = d.size := by rw [hd0]; exact size_swp _ _ _
  have HD := Lib.hid hd0
  rw [← hd0] at HSw0
  clear hd0
  go_enter Tryz.func175, Tryz.ntmps175
  go_wp2
  go_region
  go_wp2
  go_loopw [10] (fun s10 wr => ∃ (i' m : Nat), s10 = .int .i64 i' ∧ a + 1 ≤ i' ∧ i' ≤ b - 1 + 1 ∧ wr = rowU w m blk off d0 ∧ Hid (scanUp (fun x => ltU x d0[a]!) d0 (b - 1) i' = scanUp (fun x => ltU x d0[a]!) d0 (b - 1) (a + 1))) (fun s10 _ => b - 1 + 1 - (intOf s10).toNat)
  case atStart => exact ⟨a + 1, _, by go_num, Nat.le_refl _, by omega, HSw0.out, Lib.hid rfl⟩
  case round =>
    obtain ⟨i', m, rfl, hii, hij2, hwr, HS1⟩ := hrel
    have HW := Lib.hid hwr
    by_cases hgo : i' ≤ b - 1 ∧ ltU d0[i']! d0[a]! = true
    · obtain ⟨hle, ht⟩ := hgo
      have hlez : (i' : Int) ≤ (b : Int) - 1 := by omega
      have c0 := rowU_cell HH.out hsk (m := m) (t := a) (by omega)
      have c1 := rowU_cell HH.out hsk (m := m) (t := i') (by omega)
      rw [← hwr] at c0 c1
      have L1 := Lib.hid (fun w => lessU_any d0[i']! d0[a]! w)
      rw [ht] at L1
      have GO := Lib.hid (scanUp_go (fun x => ltU x d0[a]!) d0 (b - 1) i' hle ht)
      unfold mU at L1
      clear hwr ht
      obtain ⟨y, hy⟩ : ∃ y, d0[i']! = y := ⟨_, rfl⟩
      obtain ⟨x, hx⟩ : ∃ x, d0[a]! = x := ⟨_, rfl⟩
      rw [hy] at c1 L1
      rw [hx] at c0 L1
      clear hx hy
      go_wp2_with fail
      go_quiet (first | (go_at_call 173; refine Calls.quiet_of_same (L1.out _)))
      go_wp2
      go_roundw
      case rel => exact ⟨i' + 1, m + nq, by go_num, by omega, by omega, by rw [HW.out]; exact putRow_drewN _ _ _ _ _ _ _, Lib.hid (GO.out.symm.trans HS1.out)⟩
      case measure => simp [intOf]; omega
    · have hi2 := Lib.hid (show i' = scanUp (fun x => ltU x d0[a]!) d0 (b - 1) (a + 1) from (scanUp_end (fun x => ltU x d0[a]!) d0 (b - 1) i' (by
        by_cases hle : i' ≤ b - 1
        · exact .inr (by cases e : ltU d0[i']! d0[a]! with | false => rfl | true => exact absurd ⟨hle, e⟩ hgo)
        · exact .inl hle)).symm.trans HS1.out)
      have HG := Lib.hid hgo
      clear hgo HS1
      rcases Decidable.em (i' ≤ b - 1) with hle | hle
      case' inl =>
        have hlez : (i' : Int) ≤ (b : Int) - 1 := by omega
        have c0 := rowU_cell HH.out hsk (m := m) (t := a) (by omega)
        have c1 := rowU_cell HH.out hsk (m := m) (t := i') (by omega)
        rw [← hwr] at c0 c1
        have L1 := Lib.hid (fun w => lessU_any d0[i']! d0[a]! w)
        have ht : ltU d0[i']! d0[a]! = false := by cases e : ltU d0[i']! d0[a]! with | false => rfl | true => exact absurd ⟨hle, e⟩ HG.out
        rw [ht] at L1
        unfold mU at L1
        clear hwr ht HG
        obtain ⟨y, hy⟩ : ∃ y, d0[i']! = y := ⟨_, rfl⟩
        obtain ⟨x, hx⟩ : ∃ x, d0[a]! = x := ⟨_, rfl⟩
        rw [hy] at c1 L1
        rw [hx] at c0 L1
        clear hx hy
        go_wp2_with fail
        go_quiet (first | (go_at_call 173; refine Calls.quiet_of_same (L1.out _)))
        go_wp2
        clear c0 c1 L1 hlez
      case' inr =>
        have hlez : decide ((i' : Int) ≤ (b : Int) - 1) = false := decide_eq_false (by omega)
        clear hwr HG
        go_wp2_with fail
        go_quiet (fail)
        go_wp2
        clear hlez
      all_goals
        obtain ⟨m1, hm1⟩ : ∃ m1, wr.drewN nq = rowU w m1 blk off d0 := ⟨_, by rw [HW.out]; exact putRow_drewN _ _ _ _ _ _ _⟩
        have HM1 := Lib.hid hm1
        clear hm1 HW hle
        go_loopw [11] (fun s11 wr => ∃ (j' m2 : Nat), s11 = .int .i64 j' ∧ j' ≤ b - 1 ∧ i' ≤ j' + 1 ∧ wr = rowU w m2 blk off d0 ∧ Hid (scanDown (fun x => !ltU x d0[a]!) d0 i' j' = scanDown (fun x => !ltU x d0[a]!) d0 i' (b - 1))) (fun s11 _ => (intOf s11).toNat)
        case atStart => exact ⟨b - 1, m1, by go_num, Nat.le_refl _, hij2, HM1.out, Lib.hid rfl⟩
        case round =>
          clear HM1
          obtain ⟨j', m2, rfl, hjj, hij3, hwr2, HS2⟩ := hrel
          have HW2 := Lib.hid hwr2
          by_cases hgo : i' ≤ j' ∧ ltU d0[j']! d0[a]! = false
          · obtain ⟨hle2, ht⟩ := hgo
            have hlez : (i' : Int) ≤ (j' : Int) := by omega
            have c0 := rowU_cell HH.out hsk (m := m2) (t := a) (by omega)
            have c1 := rowU_cell HH.out hsk (m := m2) (t := j') (by omega)
            rw [← hwr2] at c0 c1
            have L1 := Lib.hid (fun w => lessU_any d0[j']! d0[a]! w)
            rw [ht] at L1
            have GO := Lib.hid (scanDown_go (fun x => !ltU x d0[a]!) d0 i' j' hle2 (by omega) (by simp [ht]))
            unfold mU at L1
            clear hwr2 ht
            obtain ⟨y, hy⟩ : ∃ y, d0[j']! = y := ⟨_, rfl⟩
            obtain ⟨x, hx⟩ : ∃ x, d0[a]! = x := ⟨_, rfl⟩
            rw [hy] at c1 L1
            rw [hx] at c0 L1
            clear hx hy
            go_wp2_with fail
            go_quiet (first | (go_at_call 173; refine Calls.quiet_of_same (L1.out _)))
            go_wp2
            go_roundw
            case rel => exact ⟨j' - 1, m2 + nq, by go_num, by omega, by omega, by rw [HW2.out]; exact putRow_drewN _ _ _ _ _ _ _, Lib.hid (GO.out.symm.trans HS2.out)⟩
            case measure => simp [intOf]; omega
          · have hj2 := Lib.hid (show j' = scanDown (fun x => !ltU x d0[a]!) d0 i' (b - 1) from (scanDown_end (fun x => !ltU x d0[a]!) d0 i' j' (by
              by_cases hle2 : i' ≤ j'
              · exact .inr (by cases e : ltU d0[j']! d0[a]! with | true => rfl | false => exact absurd ⟨hle2, e⟩ hgo)
              · exact .inl hle2)).symm.trans HS2.out)
            by_cases hle2 : i' ≤ j'
            · have hlez : (i' : Int) ≤ (j' : Int) := by omega
              have hgt : ¬ (i' : Int) > (j' : Int) := by omega
              have ht : ltU d0[j']! d0[a]! = true := by cases e : ltU d0[j']! d0[a]! with | true => rfl | false => exact absurd ⟨hle2, e⟩ hgo
              have hlt3 := part_scans_lt ltU a (a + 1) (b - 1) d0 (by omega) hi2.out hj2.out hle2
              have c0 := rowU_cell HH.out hsk (m := m2) (t := a) (by omega)
              have c1 := rowU_cell HH.out hsk (m := m2) (t := j') (by omega)
              have c2 := rowU_cell HH.out hsk (m := m2) (t := i') (by omega)
              have f1 := rowU_free HH.out (dk := d0) (m := m2) (t := j') (by omega)
              have f2 := rowU_free HH.out (dk := d0) (m := m2) (t := i') (by omega)
              rw [← hwr2] at c0 c1 c2 f1 f2
              have L1 := Lib.hid (fun w => lessU_any d0[j']! d0[a]! w)
              rw [ht] at L1
              unfold mU at L1
              have SW := Lib.hid (fun q => swap_worldA mU w m2 q blk off d0 i' j' (by omega) (by omega))
              unfold mU at SW
              have HP := Lib.hid (part_first_go ltU d a b pivot rfl rfl HD.out hi2.out hj2.out (by omega))
              clear hwr2 ht hgo HS2 hi2 hj2
              obtain ⟨y, hy⟩ : ∃ y, d0[j']! = y := ⟨_, rfl⟩
              obtain ⟨x, hx⟩ : ∃ x, d0[a]! = x := ⟨_, rfl⟩
              obtain ⟨z, hz⟩ : ∃ z, d0[i']! = z := ⟨_, rfl⟩
              rw [hy] at c1 L1 SW
              rw [hx] at c0 L1
              rw [hz] at c2 SW
              clear hx hy hz
              have hji : j' < d.size := by omega
              have hii2 : i' < d.size := by omega
              go_wp2_with fail
              go_quiet (first | (go_at_call 173; refine Calls.quiet_of_same (L1.out _)))
              go_wp2_with fail
              go_region
              all_goals go_wp2
              rw [show decide (j' < i') = false from decide_eq_false (by omega)]
              go_loopw [10, 11] (fun s10 s11 wr => ∃ (i j n : Nat) (dk : Array Nat), s10 = .int .i64 i ∧ s11 = .int .i64 j ∧ a < i ∧ i ≤ j + 1 ∧ j < b ∧ dk.size = d.size ∧ wr = rowU w n blk off dk ∧ Hid (partLoop ltU a i j dk = partLoop ltU a (i' + 1) (j' - 1) (swp d0 i' j'))) (fun s10 s11 _ => (intOf s11).toNat + 1 - (intOf s10).toNat)
              case atStart => exact ⟨i' + 1, j' - 1, m2 + (nq + 1), swp d0 i' j', by go_num, by go_num, by omega, by omega, by omega, by rw [size_swp]; exact hsk, by rw [HW2.out]; exact SW.out (nq + 1), Lib.hid rfl⟩
              case round =>
                clear c0 c1 c2 f1 f2 SW L1 HW2 hgt
                obtain ⟨i, j, n, dk, rfl, rfl, hai, hij, hjb, hsk, hwr, HO⟩ := hrel
                have HW0 := Lib.hid hwr
                clear hwr
                go_wp2
                go_loopw [10] (fun s10 wr => ∃ (i' m : Nat), s10 = .int .i64 i' ∧ i ≤ i' ∧ i' ≤ j + 1 ∧ wr = rowU w m blk off dk ∧ Hid (scanUp (fun x => ltU x dk[a]!) dk (j) i' = scanUp (fun x => ltU x dk[a]!) dk (j) (i))) (fun s10 _ => j + 1 - (intOf s10).toNat)
                case atStart => exact ⟨i, _, by go_num, Nat.le_refl _, hij, HW0.out, Lib.hid rfl⟩
                case round =>
                  obtain ⟨i', m, rfl, hii, hij2, hwr, HS1⟩ := hrel
                  have HW := Lib.hid hwr
                  by_cases hgo : i' ≤ j ∧ ltU dk[i']! dk[a]! = true
                  · obtain ⟨hle, ht⟩ := hgo
                    have hlez : (i' : Int) ≤ (j : Int) := by omega
                    have c0 := rowU_cell HH.out hsk (m := m) (t := a) (by omega)
                    have c1 := rowU_cell HH.out hsk (m := m) (t := i') (by omega)
                    rw [← hwr] at c0 c1
                    have L1 := Lib.hid (fun w => lessU_any dk[i']! dk[a]! w)
                    rw [ht] at L1
                    have GO := Lib.hid (scanUp_go (fun x => ltU x dk[a]!) dk (j) i' hle ht)
                    unfold mU at L1
                    clear hwr ht
                    obtain ⟨y, hy⟩ : ∃ y, dk[i']! = y := ⟨_, rfl⟩
                    obtain ⟨x, hx⟩ : ∃ x, dk[a]! = x := ⟨_, rfl⟩
                    rw [hy] at c1 L1
                    rw [hx] at c0 L1
                    clear hx hy
                    go_wp2_with fail
                    go_quiet (first | (go_at_call 173; refine Calls.quiet_of_same (L1.out _)))
                    go_wp2
                    go_roundw
                    case rel => exact ⟨i' + 1, m + nq, by go_num, by omega, by omega, by rw [HW.out]; exact putRow_drewN _ _ _ _ _ _ _, Lib.hid (GO.out.symm.trans HS1.out)⟩
                    case measure => simp [intOf]; omega
                  · have hi2 := Lib.hid (show i' = scanUp (fun x => ltU x dk[a]!) dk (j) (i) from (scanUp_end (fun x => ltU x dk[a]!) dk (j) i' (by
                      by_cases hle : i' ≤ j
                      · exact .inr (by cases e : ltU dk[i']! dk[a]! with | false => rfl | true => exact absurd ⟨hle, e⟩ hgo)
                      · exact .inl hle)).symm.trans HS1.out)
                    have HG := Lib.hid hgo
                    clear hgo HS1
                    rcases Decidable.em (i' ≤ j) with hle | hle
                    case' inl =>
                      have hlez : (i' : Int) ≤ (j : Int) := by omega
                      have c0 := rowU_cell HH.out hsk (m := m) (t := a) (by omega)
                      have c1 := rowU_cell HH.out hsk (m := m) (t := i') (by omega)
                      rw [← hwr] at c0 c1
                      have L1 := Lib.hid (fun w => lessU_any dk[i']! dk[a]! w)
                      have ht : ltU dk[i']! dk[a]! = false := by cases e : ltU dk[i']! dk[a]! with | false => rfl | true => exact absurd ⟨hle, e⟩ HG.out
                      rw [ht] at L1
                      unfold mU at L1
                      clear hwr ht HG
                      obtain ⟨y, hy⟩ : ∃ y, dk[i']! = y := ⟨_, rfl⟩
                      obtain ⟨x, hx⟩ : ∃ x, dk[a]! = x := ⟨_, rfl⟩
                      rw [hy] at c1 L1
                      rw [hx] at c0 L1
                      clear hx hy
                      go_wp2_with fail
                      go_quiet (first | (go_at_call 173; refine Calls.quiet_of_same (L1.out _)))
                      go_wp2
                      clear c0 c1 L1 hlez
                    case' inr =>
                      have hlez : decide ((i' : Int) ≤ (j : Int)) = false := decide_eq_false (by omega)
                      clear hwr HG
                      go_wp2_with fail
                      go_quiet (fail)
                      go_wp2
                      clear hlez
                    all_goals
                      obtain ⟨m1, hm1⟩ : ∃ m1, wr.drewN nq = rowU w m1 blk off dk := ⟨_, by rw [HW.out]; exact putRow_drewN _ _ _ _ _ _ _⟩
                      have HM1 := Lib.hid hm1
                      clear hm1 HW hle
                      go_loopw [11] (fun s11 wr => ∃ (j' m2 : Nat), s11 = .int .i64 j' ∧ j' ≤ j ∧ i' ≤ j' + 1 ∧ wr = rowU w m2 blk off dk ∧ Hid (scanDown (fun x => !ltU x dk[a]!) dk i' j' = scanDown (fun x => !ltU x dk[a]!) dk i' (j))) (fun s11 _ => (intOf s11).toNat)
                      case atStart => exact ⟨j, m1, by go_num, Nat.le_refl _, hij2, HM1.out, Lib.hid rfl⟩
                      case round =>
                        clear HM1
                        obtain ⟨j', m2, rfl, hjj, hij3, hwr2, HS2⟩ := hrel
                        have HW2 := Lib.hid hwr2
                        by_cases hgo : i' ≤ j' ∧ ltU dk[j']! dk[a]! = false
                        · obtain ⟨hle2, ht⟩ := hgo
                          have hlez : (i' : Int) ≤ (j' : Int) := by omega
                          have c0 := rowU_cell HH.out hsk (m := m2) (t := a) (by omega)
                          have c1 := rowU_cell HH.out hsk (m := m2) (t := j') (by omega)
                          rw [← hwr2] at c0 c1
                          have L1 := Lib.hid (fun w => lessU_any dk[j']! dk[a]! w)
                          rw [ht] at L1
                          have GO := Lib.hid (scanDown_go (fun x => !ltU x dk[a]!) dk i' j' hle2 (by omega) (by simp [ht]))
                          unfold mU at L1
                          clear hwr2 ht
                          obtain ⟨y, hy⟩ : ∃ y, dk[j']! = y := ⟨_, rfl⟩
                          obtain ⟨x, hx⟩ : ∃ x, dk[a]! = x := ⟨_, rfl⟩
                          rw [hy] at c1 L1
                          rw [hx] at c0 L1
                          clear hx hy
                          go_wp2_with fail
                          go_quiet (first | (go_at_call 173; refine Calls.quiet_of_same (L1.out _)))
                          go_wp2
                          go_roundw
                          case rel => exact ⟨j' - 1, m2 + nq, by go_num, by omega, by omega, by rw [HW2.out]; exact putRow_drewN _ _ _ _ _ _ _, Lib.hid (GO.out.symm.trans HS2.out)⟩
                          case measure => simp [intOf]; omega
                        · have hj2 := Lib.hid (show j' = scanDown (fun x => !ltU x dk[a]!) dk i' (j) from (scanDown_end (fun x => !ltU x dk[a]!) dk i' j' (by
                            by_cases hle2 : i' ≤ j'
                            · exact .inr (by cases e : ltU dk[j']! dk[a]! with | true => rfl | false => exact absurd ⟨hle2, e⟩ hgo)
                            · exact .inl hle2)).symm.trans HS2.out)
                          by_cases hle2 : i' ≤ j'
                          · have hlez : (i' : Int) ≤ (j' : Int) := by omega
                            have hgt : ¬ (i' : Int) > (j' : Int) := by omega
                            have ht : ltU dk[j']! dk[a]! = true := by cases e : ltU dk[j']! dk[a]! with | true => rfl | false => exact absurd ⟨hle2, e⟩ hgo
                            have hlt3 := part_scans_lt ltU a (i) (j) dk (by omega) hi2.out hj2.out hle2
                            have c0 := rowU_cell HH.out hsk (m := m2) (t := a) (by omega)
                            have c1 := rowU_cell HH.out hsk (m := m2) (t := j') (by omega)
                            have c2 := rowU_cell HH.out hsk (m := m2) (t := i') (by omega)
                            have f1 := rowU_free HH.out (dk := dk) (m := m2) (t := j') (by omega)
                            have f2 := rowU_free HH.out (dk := dk) (m := m2) (t := i') (by omega)
                            rw [← hwr2] at c0 c1 c2 f1 f2
                            have L1 := Lib.hid (fun w => lessU_any dk[j']! dk[a]! w)
                            rw [ht] at L1
                            unfold mU at L1
                            have SW := Lib.hid (fun q => swap_worldA mU w m2 q blk off dk i' j' (by omega) (by omega))
                            unfold mU at SW
                            have GO := Lib.hid (part_go ltU a i j dk hi2.out hj2.out (by omega))
                            clear hwr2 ht hgo HS2 hi2 hj2
                            obtain ⟨y, hy⟩ : ∃ y, dk[j']! = y := ⟨_, rfl⟩
                            obtain ⟨x, hx⟩ : ∃ x, dk[a]! = x := ⟨_, rfl⟩
                            obtain ⟨z, hz⟩ : ∃ z, dk[i']! = z := ⟨_, rfl⟩
                            rw [hy] at c1 L1 SW
                            rw [hx] at c0 L1
                            rw [hz] at c2 SW
                            clear hx hy hz
                            have hji : j' < d.size := by omega
                            have hii2 : i' < d.size := by omega
                            go_wp2_with fail
                            go_quiet (first | (go_at_call 173; refine Calls.quiet_of_same (L1.out _)))
                            go_wp2_with fail
                            go_region
                            all_goals go_wp2
                            go_roundw
                            case rel =>
                              exact ⟨i' + 1, j' - 1, m2 + (nq + 1), swp dk i' j', by go_num, by go_num, by omega, by omega, by omega, by rw [size_swp]; exact hsk, by rw [HW2.out]; exact SW.out (nq + 1), Lib.hid (GO.out.symm.trans HO.out)⟩
                            case measure => simp [intOf]; omega
                          · have hlez : decide ((i' : Int) ≤ (j' : Int)) = false := decide_eq_false (by omega)
                            have hgt : (i' : Int) > (j' : Int) := by omega
                            have hb2 := part_break ltU a i j dk hi2.out hj2.out (by omega)
                            have HB := Lib.hid (show Sort.partition ltU d a b pivot = (j', false, swp dk j' a) by rw [HP.out, ← HO.out, hb2])
                            clear hb2 HO
                            clear hgo HS2 hi2 hj2
                            go_wp2_with fail
                            go_quiet (fail)
                            have c0 := rowU_cell HH.out hsk (m := m2 + nq) (t := a) (by omega)
                            have c1 := rowU_cell HH.out hsk (m := m2 + nq) (t := j') (by omega)
                            have f0 := rowU_free HH.out (dk := dk) (m := m2 + nq) (t := a) (by omega)
                            have f1 := rowU_free HH.out (dk := dk) (m := m2 + nq) (t := j') (by omega)
                            have hw3 : wr.drewN nq = rowU w (m2 + nq) blk off dk := by rw [HW2.out]; exact putRow_drewN _ _ _ _ _ _ _
                            rw [← hw3] at c0 c1 f0 f1
                            have HW3 := Lib.hid hw3
                            clear hw3 hwr2 HW2
                            generalize wr.drewN nq = W3 at *
                            have HSw := Lib.hid (show ((W3.setCell ⟨blk, off + j', none⟩ (.int .u64 (dk[a]! : Nat))).setCell ⟨blk, off + a, none⟩ (.int .u64 (dk[j']! : Nat))).drew = rowU w (m2 + nq + 1) blk off (swp dk j' a) from swap_world mU (by omega) (by omega) HW3.out rfl rfl)
                            obtain ⟨y, hy⟩ : ∃ y, dk[j']! = y := ⟨_, rfl⟩
                            obtain ⟨x, hx⟩ : ∃ x, dk[a]! = x := ⟨_, rfl⟩
                            rw [hy] at c1 HSw
                            rw [hx] at c0 HSw
                            clear hx hy HW3
                            have hji : j' < d.size := by omega
                            have hii2 : a < d.size := by omega
                            obtain ⟨v', hy'⟩ := cell?_setCell_some (w := W3) (p := ⟨blk, off + j', none⟩) (x := .int .u64 (x : Nat)) (q := ⟨blk, off + a, none⟩) c0
                            go_wp2_with fail
                            go_region
                            all_goals go_wp2
                            go_ret2
                            exact ⟨by rw [HB.out]; rfl, m2 + nq + 1, by rw [HB.out]; exact HSw.out⟩
            · have hlez : decide ((i' : Int) ≤ (j' : Int)) = false := decide_eq_false (by omega)
              have hgt : (i' : Int) > (j' : Int) := by omega
              have HB := Lib.hid (part_first_break ltU d a b pivot rfl rfl HD.out hi2.out hj2.out (by omega))
              clear hgo HS2 hi2 hj2
              go_wp2_with fail
              go_quiet (fail)
              have c0 := rowU_cell HH.out hsk (m := m2 + nq) (t := a) (by omega)
              have c1 := rowU_cell HH.out hsk (m := m2 + nq) (t := j') (by omega)
              have f0 := rowU_free HH.out (dk := d0) (m := m2 + nq) (t := a) (by omega)
              have f1 := rowU_free HH.out (dk := d0) (m := m2 + nq) (t := j') (by omega)
              have hw3 : wr.drewN nq = rowU w (m2 + nq) blk off d0 := by rw [HW2.out]; exact putRow_drewN _ _ _ _ _ _ _
              rw [← hw3] at c0 c1 f0 f1
              have HW3 := Lib.hid hw3
              clear hw3 hwr2 HW2
              generalize wr.drewN nq = W3 at *
              have HSw := Lib.hid (show ((W3.setCell ⟨blk, off + j', none⟩ (.int .u64 (d0[a]! : Nat))).setCell ⟨blk, off + a, none⟩ (.int .u64 (d0[j']! : Nat))).drew = rowU w (m2 + nq + 1) blk off (swp d0 j' a) from swap_world mU (by omega) (by omega) HW3.out rfl rfl)
              obtain ⟨y, hy⟩ : ∃ y, d0[j']! = y := ⟨_, rfl⟩
              obtain ⟨x, hx⟩ : ∃ x, d0[a]! = x := ⟨_, rfl⟩
              rw [hy] at c1 HSw
              rw [hx] at c0 HSw
              clear hx hy HW3
              have hji : j' < d.size := by omega
              have hii2 : a < d.size := by omega
              obtain ⟨v', hy'⟩ := cell?_setCell_some (w := W3) (p := ⟨blk, off + j', none⟩) (x := .int .u64 (x : Nat)) (q := ⟨blk, off + a, none⟩) c0
              go_wp2_with fail
              go_region
              all_goals go_wp2
              go_ret2
              exact ⟨by rw [HB.out]; rfl, m2 + nq + 1, by rw [HB.out]; exact HSw.out⟩
end Go.Proofs.YtaehendpdfpibaaGreatDoor
