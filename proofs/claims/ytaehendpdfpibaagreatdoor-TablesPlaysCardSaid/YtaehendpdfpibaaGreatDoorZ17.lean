import Derived.Test.YtaehendpdfpibaaGreatDoorZ16
import Derived.Sort.WalkC

/-
  slices.Sort at masks, its pieces: the heap sort.
-/
namespace Go.Proofs.YtaehendpdfpibaaGreatDoor
set_option linter.unusedSimpArgs false
set_option linter.unusedVariables false
open Go.RowKit Go.Sort Go.Lib Go.Shelf

section
variable {w : World} {blk off : Nat} {d dk : Array Nat}
theorem rowU_holds (hH : Holds mU w blk off d) (hs : dk.size = d.size) {m : Nat} : Holds mU (rowU w m blk off dk) blk off dk := holds_putRow mU _ blk off d dk (holds_ahead mU w m blk off d hH) hs
theorem rowU_row {m n : Nat} {dj : Array Nat} (hs : dj.size = dk.size) : rowU (rowU w n blk off dk) m blk off dj = rowU w (n + m) blk off dj := putRow_ahead_putRow mU w n m blk off dk dj hs
end
set_option maxHeartbeats 8000000 in
set_option maxRecDepth 1000000 in
/-- heapSortOrdered. -/
theorem heapU_call (blk off cap a b : Nat) (d : Array Nat) (w : World) (hH : Holds mU w blk off d) (hab : a ≤ b) (hb : b ≤ d.size) (hsz : d.size ≤ 1000) :
    Calls Tryz.prog 168 #[slU blk off d.size cap, .int .i64 a, .int .i64 b] w fun e w' => e = .returned (.tuple #[]) ∧ ∃ n, w' = rowU w n blk off (Sort.heapSort ltU d a b) := by
  have HH := Lib.hid hH
  have HS := Lib.hid (putRow_self _ _ _ _ _ hH).symm
  have EC := Lib.hid (show ((b - a : Nat) : Int) = (b : Int) - (a : Int) by omega)
  have HF := Lib.hid (half_start hab)
  clear hH
  go_enter Tryz.func168, Tryz.ntmps168
  go_wp2
  go_loopw [9] (fun s9 wr => ∃ (k n : Nat) (z : Int) (dk : Array Nat), s9 = .int .i64 z ∧ z = (k : Int) - 1 ∧ k ≤ (b - a - 1) / 2 + 1 ∧ dk.size = d.size ∧ wr = rowU w n blk off dk ∧ Hid (heapBuild ltU (b - a) a k dk = heapBuild ltU (b - a) a ((b - a - 1) / 2 + 1) d)) (fun s9 _ => (intOf s9 + 1).toNat)
  case atStart => exact ⟨(b - a - 1) / 2 + 1, 0, _, d, rfl, HF.out, Nat.le_refl _, rfl, HS.out, Lib.hid rfl⟩
  case round =>
    obtain ⟨k, n, z, dk, rfl, hz, hkk, hsk, hwr, HO⟩ := hrel
    have HW := Lib.hid hwr
    have HZ := Lib.hid hz
    clear hwr hz
    cases k with
    | zero =>
      obtain rfl : z = -1 := by have := HZ.out; omega
      have hB : dk = heapBuild ltU (b - a) a ((b - a - 1) / 2 + 1) d := HO.out
      have HB := Lib.hid hB
      clear hB HO HZ hkk
      go_wp2
      go_loopw [10] (fun s10 wr => ∃ (k n : Nat) (z : Int) (dj : Array Nat), s10 = .int .i64 z ∧ z = (k : Int) - 1 ∧ k ≤ b - a ∧ dj.size = d.size ∧ wr = rowU w n blk off dj ∧ Hid (heapPop ltU a k dj = heapPop ltU a (b - a) dk)) (fun s10 _ => (intOf s10 + 1).toNat)
      case atStart => exact ⟨b - a, n, _, dk, rfl, by rw [EC.out], Nat.le_refl _, hsk, HW.out, Lib.hid rfl⟩
      case round =>
        obtain ⟨k, n2, z2, dj, rfl, hz, hkk, hsj, hwr, HP⟩ := hrel
        have HW2 := Lib.hid hwr
        cases k with
        | zero =>
          obtain rfl : z2 = -1 := by omega
          clear hwr hz
          go_wp2
          go_end0
          exact ⟨rfl, n2, by rw [HW2.out, Sort.heapSort, ← HB.out, ← HP.out]; rfl⟩
        | succ k =>
          obtain rfl : z2 = (k : Int) := by omega
          have hz0 : (k : Int) ≥ 0 := by omega
          have m1 : IntKind.i64.wrap ((a : Int) + (k : Int)) = (a : Int) + (k : Int) := IntWalk.i64_in _ (by omega)
          have q1 : ((a : Int) + (k : Int)).toNat = a + k := by omega
          have c0 := rowU_cell HH.out hsj (m := n2) (t := a) (by omega)
          have f0 := rowU_free HH.out (dk := dj) (m := n2) (t := a) (by omega)
          have c1 := rowU_cell HH.out hsj (m := n2) (t := a + k) (by omega)
          have f1 := rowU_free HH.out (dk := dj) (m := n2) (t := a + k) (by omega)
          rw [← hwr] at c0 c1 f0 f1
          have hs1 : (swp dj a (a + k)).size = d.size := by rw [size_swp]; exact hsj
          have hs2 : (Sort.siftDown ltU k a 0 (swp dj a (a + k))).size = (swp dj a (a + k)).size := size_siftDown ltU _ _ _ _ _ (Nat.le_refl _)
          have CL := Lib.hid (siftU_call blk off cap 0 k a (swp dj a (a + k)) (rowU w (n2 + 1) blk off (swp dj a (a + k))) (rowU_holds HH.out hs1) (Nat.zero_le _) (by omega) (by omega))
          rw [hs1] at CL
          have HX := Lib.hid (show heapPop ltU a (k + 1) dj = heapPop ltU a k (Sort.siftDown ltU k a 0 (swp dj a (a + k))) from rfl)
          have hs3 := hs2.trans hs1
          have RR := Lib.hid (fun m => rowU_row (w := w) (blk := blk) (off := off) (n := n2 + 1) (m := m) hs2)
          have HSw := Lib.hid (show ((wr.setCell ⟨blk, off + a, none⟩ (.int .u64 (dj[a + k]! : Nat))).setCell ⟨blk, off + (a + k), none⟩ (.int .u64 (dj[a]! : Nat))).drew = rowU w (n2 + 1) blk off (swp dj a (a + k)) from swap_world mU (by omega) (by omega) HW2.out rfl rfl)
          generalize Sort.siftDown ltU k a 0 (swp dj a (a + k)) = dx at *
          generalize swp dj a (a + k) = ds at *
          clear hwr hz hs2
          rcases Nat.eq_zero_or_pos k with hk0 | hkp
          · subst hk0
            simp only [Nat.add_zero] at c1 f1 HSw
            go_wp2_with fail
            go_region
            all_goals go_wp2_with fail
            rw [HSw.out]
            refine CL.out.mono ?_
            rintro e w1 ⟨rfl, m, hw1⟩
            have HW1 := Lib.hid hw1
            clear hw1
            go_wp2
            go_roundw
            case rel => exact ⟨0, n2 + 1 + m, _, dx, rfl, by omega, by omega, hs3, by rw [HW1.out]; exact RR.out m, Lib.hid (by rw [← HX.out]; exact HP.out)⟩
            case measure => simp [intOf]
          · go_wp2_with fail
            go_region
            all_goals go_wp2_with fail
            rw [HSw.out]
            refine CL.out.mono ?_
            rintro e w1 ⟨rfl, m, hw1⟩
            have HW1 := Lib.hid hw1
            clear hw1
            go_wp2
            go_roundw
            case rel => exact ⟨k, n2 + 1 + m, _, dx, rfl, by omega, by omega, hs3, by rw [HW1.out]; exact RR.out m, Lib.hid (by rw [← HX.out]; exact HP.out)⟩
            case measure => simp [intOf]
    | succ k =>
      obtain rfl : z = (k : Int) := by have := HZ.out; omega
      have hz0 : (k : Int) ≥ 0 := by omega
      have hs2 : (Sort.siftDown ltU (b - a) a k dk).size = dk.size := size_siftDown ltU _ _ _ _ _ (Nat.le_refl _)
      have CL := Lib.hid (siftU_call blk off cap k (b - a) a dk (rowU w n blk off dk) (rowU_holds HH.out hsk) (by omega) (by omega) (by omega))
      rw [hsk, EC.out, ← HW.out] at CL
      have HX := Lib.hid (show heapBuild ltU (b - a) a (k + 1) dk = heapBuild ltU (b - a) a k (Sort.siftDown ltU (b - a) a k dk) from rfl)
      have hs3 := hs2.trans hsk
      have RR := Lib.hid (fun m => rowU_row (w := w) (blk := blk) (off := off) (n := n) (m := m) hs2)
      generalize Sort.siftDown ltU (b - a) a k dk = dx at *
      clear hs2
      go_wp2_with fail
      refine CL.out.mono ?_
      rintro e w1 ⟨rfl, m, hw1⟩
      have HW1 := Lib.hid hw1
      clear hw1
      go_wp2
      go_roundw
      case rel => exact ⟨k, n + m, _, dx, rfl, rfl, by omega, hs3, by rw [HW1.out, HW.out]; exact RR.out m, Lib.hid (by rw [← HX.out]; exact HO.out)⟩
      case measure => simp [intOf]
end Go.Proofs.YtaehendpdfpibaaGreatDoor

/-
  slices.Sort at masks, its pieces: the partition by equals.
-/
namespace Go.Proofs.YtaehendpdfpibaaGreatDoor
set_option linter.unusedSimpArgs false
set_option linter.unusedVariables false
open Go.RowKit Go.Sort Go.Lib Go.Shelf

set_option maxHeartbeats 8000000 in
set_option maxRecDepth 1000000 in
/-- partitionEqualOrdered. -/
theorem partEqU_call (blk off cap a b pivot : Nat) (d : Array Nat) (w : World) (hH : Holds mU w blk off d) (hap : a ≤ pivot) (hpb : pivot < b) (hb : b ≤ d.size) (hsz : d.size ≤ 1000) :
    Calls Tryz.prog 174 #[slU blk off d.size cap, .int .i64 a, .int .i64 b, .int .i64 pivot] w fun e w' => e = .returned (.int .i64 ((Sort.partitionEqual ltU d a b pivot).1 : Nat)) ∧ ∃ n, w' = rowU w n blk off (Sort.partitionEqual ltU d a b pivot).2 := by
  have mixed : Tryz.prog.follows .mixedOrders = true := by kernel_rfl
  have HH := Lib.hid hH
  have HS := Lib.hid (putRow_self _ _ _ _ _ hH).symm
  have HSw := Lib.hid (show ((w.setCell ⟨blk, off + a, none⟩ (.int .u64 (d[pivot]! : Nat))).setCell ⟨blk, off + pivot, none⟩ (.int .u64 (d[a]! : Nat))).drew = rowU w (0 + 1) blk off (swp d a pivot) from swap_world mU (by omega) (by omega) HS.out rfl rfl)
  have c0 : w.cell? ⟨blk, off + a, none⟩ = some (.int .u64 (d[a]! : Nat)) := (hH a (by omega)).1
  have c1 : w.cell? ⟨blk, off + pivot, none⟩ = some (.int .u64 (d[pivot]! : Nat)) := (hH pivot (by omega)).1
  have f0 := (hH a (by omega)).2
  have f1 := (hH pivot (by omega)).2
  have hla : a < d.size := by omega
  have hlp : pivot < d.size := by omega
  generalize d[a]! = x0 at *
  generalize d[pivot]! = y0 at *
  obtain ⟨v', hy'⟩ := cell?_setCell_some (w := w) (p := ⟨blk, off + a, none⟩) (x := .int .u64 (y0 : Nat)) (q := ⟨blk, off + pivot, none⟩) c1
  clear hH
  go_enter Tryz.func174, Tryz.ntmps174
  go_wp2
  go_region
  go_wp2
  go_loopw [9, 10] (fun s9 s10 wr => ∃ (i j n : Nat) (dk : Array Nat), s9 = .int .i64 i ∧ s10 = .int .i64 j ∧ a < i ∧ i ≤ j + 1 ∧ j < b ∧ dk.size = d.size ∧ wr = rowU w n blk off dk ∧ Hid (partEqLoop ltU a i j dk = partEqLoop ltU a (a + 1) (b - 1) (swp d a pivot))) (fun s9 s10 _ => (intOf s10).toNat + 1 - (intOf s9).toNat)
  case atStart => exact ⟨a + 1, b - 1, 0 + 1, swp d a pivot, by go_num, by go_num, by omega, by omega, by omega, size_swp _ _ _, HSw.out, Lib.hid rfl⟩
  case round =>
    clear c0 c1 f0 f1 hy' HSw
    obtain ⟨i, j, n, dk, rfl, rfl, hai, hij, hjb, hsk, hwr, HO⟩ := hrel
    have HW0 := Lib.hid hwr
    clear hwr
    go_wp2
    go_loopw [9] (fun s9 wr => ∃ (i' m : Nat), s9 = .int .i64 i' ∧ i ≤ i' ∧ i' ≤ j + 1 ∧ wr = rowU w m blk off dk ∧ Hid (scanUp (fun x => !ltU dk[a]! x) dk j i' = scanUp (fun x => !ltU dk[a]! x) dk j i)) (fun s9 _ => j + 1 - (intOf s9).toNat)
    case atStart => exact ⟨i, n, rfl, Nat.le_refl _, hij, HW0.out, Lib.hid rfl⟩
    case round =>
      obtain ⟨i', m, rfl, hii, hij2, hwr, HS1⟩ := hrel
      have HW := Lib.hid hwr
      by_cases hgo : i' ≤ j ∧ ltU dk[a]! dk[i']! = false
      · obtain ⟨hle, ht⟩ := hgo
        have hlez : (i' : Int) ≤ (j : Int) := by omega
        have c0 := rowU_cell HH.out hsk (m := m) (t := a) (by omega)
        have c1 := rowU_cell HH.out hsk (m := m) (t := i') (by omega)
        rw [← hwr] at c0 c1
        have L1 := Lib.hid (fun w => lessU_any dk[a]! dk[i']! w)
        rw [ht] at L1
        have GO := Lib.hid (scanUp_go (fun x => !ltU dk[a]! x) dk j i' hle (by simp [ht]))
        unfold mU at L1
        clear hwr ht
        generalize dk[i']! = y at *
        generalize dk[a]! = x at *
        go_wp2_with fail
        go_quiet (first | (go_at_call 173; refine Calls.quiet_of_same (L1.out _)))
        go_wp2
        go_roundw
        case rel => exact ⟨i' + 1, m + nq, by go_num, by omega, by omega, by rw [HW.out]; exact putRow_drewN _ _ _ _ _ _ _, Lib.hid (GO.out.symm.trans HS1.out)⟩
        case measure => simp [intOf]; omega
      · have hi2 := Lib.hid (show i' = scanUp (fun x => !ltU dk[a]! x) dk j i from (scanUp_end (fun x => !ltU dk[a]! x) dk j i' (by
          by_cases hle : i' ≤ j
          · exact .inr (by cases e : ltU dk[a]! dk[i']! with | true => simp [e] | false => exact absurd ⟨hle, e⟩ hgo)
          · exact .inl hle)).symm.trans HS1.out)
        have HG := Lib.hid hgo
        clear hgo HS1
        rcases Decidable.em (i' ≤ j) with hle | hle
        case' inl =>
          have hlez : (i' : Int) ≤ (j : Int) := by omega
          have c0 := rowU_cell HH.out hsk (m := m) (t := a) (by omega)
          have c1 := rowU_cell HH.out hsk (m := m) (t := i') (by omega)
          rw [← hwr] at c0 c1
          have L1 := Lib.hid (fun w => lessU_any dk[a]! dk[i']! w)
          have ht : ltU dk[a]! dk[i']! = true := by cases e : ltU dk[a]! dk[i']! with | true => rfl | false => exact absurd ⟨hle, e⟩ HG.out
          rw [ht] at L1
          unfold mU at L1
          clear hwr ht HG
          obtain ⟨y, hy⟩ : ∃ y, dk[i']! = y := ⟨_, rfl⟩
          obtain ⟨x, hx⟩ : ∃ x, dk[a]! = x := ⟨_, rfl⟩
          rw [hy] at c1 L1
          rw [hx] at c0 L1
          clear hx hy
          go_wp2_with fail
          go_quiet (first | (go_at_call 173; refine Calls.quiet_of_same (L1.out _)))
          go_wp2
          clear c0 c1 L1 hlez
        case' inr =>
          have hlez : decide ((i' : Int) ≤ (j : Int)) = false := decide_eq_false (by omega)
          clear hwr HG
          go_wp2_with fail
          go_quiet (fail)
          go_wp2
          clear hlez
        all_goals
          obtain ⟨m1, hm1⟩ : ∃ m1, wr.drewN nq = rowU w m1 blk off dk := ⟨_, by rw [HW.out]; exact putRow_drewN _ _ _ _ _ _ _⟩
          have HM1 := Lib.hid hm1
          clear hm1 HW hle
          go_loopw [10] (fun s10 wr => ∃ (j' m2 : Nat), s10 = .int .i64 j' ∧ j' ≤ j ∧ i' ≤ j' + 1 ∧ wr = rowU w m2 blk off dk ∧ Hid (scanDown (fun x => ltU dk[a]! x) dk i' j' = scanDown (fun x => ltU dk[a]! x) dk i' j)) (fun s10 _ => (intOf s10).toNat)
          case atStart => exact ⟨j, m1, rfl, Nat.le_refl _, hij2, HM1.out, Lib.hid rfl⟩
          case round =>
            clear HM1
            obtain ⟨j', m2, rfl, hjj, hij3, hwr2, HS2⟩ := hrel
            have HW2 := Lib.hid hwr2
            by_cases hgo : i' ≤ j' ∧ ltU dk[a]! dk[j']! = true
            · obtain ⟨hle2, ht⟩ := hgo
              have hlez : (i' : Int) ≤ (j' : Int) := by omega
              have c0 := rowU_cell HH.out hsk (m := m2) (t := a) (by omega)
              have c1 := rowU_cell HH.out hsk (m := m2) (t := j') (by omega)
              rw [← hwr2] at c0 c1
              have L1 := Lib.hid (fun w => lessU_any dk[a]! dk[j']! w)
              rw [ht] at L1
              have GO := Lib.hid (scanDown_go (fun x => ltU dk[a]! x) dk i' j' hle2 (by omega) ht)
              unfold mU at L1
              clear hwr2 ht
              obtain ⟨y, hy⟩ : ∃ y, dk[j']! = y := ⟨_, rfl⟩
              obtain ⟨x, hx⟩ : ∃ x, dk[a]! = x := ⟨_, rfl⟩
              rw [hy] at c1 L1
              rw [hx] at c0 L1
              clear hx hy
              go_wp2_with fail
              go_quiet (first | (go_at_call 173; refine Calls.quiet_of_same (L1.out _)))
              go_wp2
              go_roundw
              case rel => exact ⟨j' - 1, m2 + nq, by go_num, by omega, by omega, by rw [HW2.out]; exact putRow_drewN _ _ _ _ _ _ _, Lib.hid (GO.out.symm.trans HS2.out)⟩
              case measure => simp [intOf]; omega
            · have hj2 := Lib.hid (show j' = scanDown (fun x => ltU dk[a]! x) dk i' j from (scanDown_end (fun x => ltU dk[a]! x) dk i' j' (by
                by_cases hle2 : i' ≤ j'
                · exact .inr (by cases e : ltU dk[a]! dk[j']! with | false => rfl | true => exact absurd ⟨hle2, e⟩ hgo)
                · exact .inl hle2)).symm.trans HS2.out)
              by_cases hle2 : i' ≤ j'
              · have hlez : (i' : Int) ≤ (j' : Int) := by omega
                have hgt : ¬ (i' : Int) > (j' : Int) := by omega
                have ht : ltU dk[a]! dk[j']! = false := by cases e : ltU dk[a]! dk[j']! with | false => rfl | true => exact absurd ⟨hle2, e⟩ hgo
                have hlt3 := scans_lt ltU a i j dk (by omega) hi2.out hj2.out hle2
                have c0 := rowU_cell HH.out hsk (m := m2) (t := a) (by omega)
                have c1 := rowU_cell HH.out hsk (m := m2) (t := j') (by omega)
                have c2 := rowU_cell HH.out hsk (m := m2) (t := i') (by omega)
                have f1 := rowU_free HH.out (dk := dk) (m := m2) (t := j') (by omega)
                have f2 := rowU_free HH.out (dk := dk) (m := m2) (t := i') (by omega)
                rw [← hwr2] at c0 c1 c2 f1 f2
                have L1 := Lib.hid (fun w => lessU_any dk[a]! dk[j']! w)
                rw [ht] at L1
                unfold mU at L1
                have GO := Lib.hid (partEq_go ltU a i j dk hi2.out hj2.out (by omega))
                have SW := Lib.hid (fun q => swap_worldA mU w m2 q blk off dk i' j' (by omega) (by omega))
                unfold mU at SW
                clear hwr2 ht hgo HS2 hi2 hj2
                obtain ⟨y, hy⟩ : ∃ y, dk[j']! = y := ⟨_, rfl⟩
                obtain ⟨x, hx⟩ : ∃ x, dk[a]! = x := ⟨_, rfl⟩
                obtain ⟨z, hz⟩ : ∃ z, dk[i']! = z := ⟨_, rfl⟩
                rw [hy] at c1 L1 SW
                rw [hx] at c0 L1
                rw [hz] at c2 SW
                clear hx hy hz
                have hji : j' < d.size := by omega
                have hii2 : i' < d.size := by omega
                go_wp2_with fail
                go_quiet (first | (go_at_call 173; refine Calls.quiet_of_same (L1.out _)))
                go_wp2_with fail
                go_region
                all_goals go_wp2
                go_roundw
                case rel => exact ⟨i' + 1, j' - 1, m2 + (nq + 1), swp dk i' j', by go_num, by go_num, by omega, by omega, by omega, by rw [size_swp]; exact hsk, by rw [HW2.out]; exact SW.out (nq + 1), Lib.hid (GO.out.symm.trans HO.out)⟩
                case measure => simp [intOf]; omega
              · have hlez : decide ((i' : Int) ≤ (j' : Int)) = false := decide_eq_false (by omega)
                have hgt : (i' : Int) > (j' : Int) := by omega
                have hb2 := partEq_break ltU a i j dk hi2.out hj2.out (by omega)
                have HB := Lib.hid (show Sort.partitionEqual ltU d a b pivot = (i', dk) from HO.out.symm.trans hb2)
                clear hwr2 hgo HS2 hi2 hj2 hb2 HO
                go_wp2_with fail
                go_quiet (fail)
                go_wp2
                go_ret
                exact ⟨by rw [HB.out]; rfl, m2 + nq, by rw [HB.out, HW2.out]; exact putRow_drewN _ _ _ _ _ _ _⟩
end Go.Proofs.YtaehendpdfpibaaGreatDoor
