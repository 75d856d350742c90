import Derived.Test.YtaehendpdfpibaaGreatDoorZ0
import Derived.Test.YtaehendpdfpibaaGreatDoorZ8
import Derived.Sort.WalkA
import Derived.BigRegion
import Derived.BigQuiet
import Derived.Deep.QuietTactic
import Derived.IntWalk
import Derived.Sort.WalkB3

/-
  slices.Sort at masks, its pieces: cmp.Less, the insertion sort. What each does to the row is told by the kit's pure functions.
-/
namespace Go.Proofs.YtaehendpdfpibaaGreatDoor
set_option linter.unusedSimpArgs false
set_option linter.unusedVariables false
open Go.RowKit Go.Sort Go.Lib Go.Shelf

/-- Masks in order. -/
def ltU (x y : Nat) : Bool := decide (x < y)
abbrev slU (blk off n cap : Nat) : Value := .slice (some ⟨blk, off, none⟩) n cap
theorem nanU_any (x : Nat) (w : World) : Calls Tryz.prog 192 #[mU x] w fun e w' => e = .returned (.bool false) ∧ w' = w := by
  unfold mU
  go_enter Tryz.func192, Tryz.ntmps192
  go_wp2
  go_ret
  exact ⟨by simp, rfl⟩
theorem lessU_any (x y : Nat) (w : World) : Calls Tryz.prog 173 #[mU x, mU y] w fun e w' => e = .returned (.bool (ltU x y)) ∧ w' = w := by
  have N := fun x w => nanU_any x w
  unfold mU at N ⊢
  have HN := Lib.hid N
  clear N
  go_enter Tryz.func173, Tryz.ntmps173
  go_wp2_with fail
  refine (HN.out x w).mono ?_
  rintro e w' ⟨rfl, rfl⟩
  go_wp2
  go_ret
  exact ⟨by simp [ltU], rfl⟩

/-- The row d of masks at blk, n draws later: what every piece of the sort leaves. -/
abbrev rowU (w : World) (n blk off : Nat) (d : Array Nat) : World := putRow mU (Sort.ahead w n) blk off d
section
variable {w : World} {blk off : Nat} {d dk : Array Nat}
/-- A cell of the row, under way. -/
theorem rowU_cell (hH : Holds mU w blk off d) (hs : dk.size = d.size) {m t : Nat} (ht : t < d.size) : (rowU w m blk off dk).cell? ⟨blk, off + t, none⟩ = some (.int .u64 (dk[t]! : Nat)) := cell?_putRow _ _ _ _ d dk (holds_ahead _ _ _ _ _ _ hH) hs t (by omega)
theorem rowU_free (hH : Holds mU w blk off d) {m t : Nat} (ht : t < d.size) : (rowU w m blk off dk).frozen? ⟨blk, off + t, none⟩ = false := by
  rw [rowU, frozen?_putRow]
  exact ((holds_ahead _ _ m _ _ _ hH) t ht).2
end
set_option maxHeartbeats 4000000 in
set_option maxRecDepth 1000000 in
/-- insertionSortOrdered. -/
theorem insertU_call (blk off cap a b : Nat) (d : Array Nat) (w : World) (hH : Holds mU w blk off d) (hab : a ≤ b) (hb : b ≤ d.size) (hsz : d.size < 4611686018427387904) :
    Calls Tryz.prog 167 #[slU blk off d.size cap, .int .i64 a, .int .i64 b] w fun e w' => e = .returned (.tuple #[]) ∧ ∃ n, w' = rowU w n blk off (Sort.insertionSort ltU d a b) := by
  have mixed : Tryz.prog.follows .mixedOrders = true := by kernel_rfl
  have HH := Lib.hid hH
  have HS := Lib.hid (putRow_self _ _ _ _ _ hH).symm
  clear hH
  go_enter Tryz.func167, Tryz.ntmps167
  go_wp2
  go_loopw [6] (fun s6 wr => ∃ (i n : Nat) (dk : Array Nat), s6 = .int .i64 i ∧ a < i ∧ i ≤ b + 1 ∧ dk.size = d.size ∧ wr = rowU w n blk off dk ∧ Hid (insOuter ltU a b i dk = insOuter ltU a b (a + 1) d)) (fun s6 _ => b + 1 - (intOf s6).toNat)
  case atStart => exact ⟨a + 1, 0, d, by go_num, by omega, by omega, rfl, HS.out, Lib.hid rfl⟩
  case round =>
    obtain ⟨i, n, dk, rfl, hai, hib, hsk, hwr, HO⟩ := hrel
    obtain ⟨W, hW⟩ : ∃ W, W = wr := ⟨_, rfl⟩
    by_cases hib2 : i < b
    · have hiz : (i : Int) < (b : Int) := by omega
      go_wp2
      go_loopw [7] (fun s7 wr => ∃ (j m : Nat) (dj : Array Nat), s7 = .int .i64 j ∧ a ≤ j ∧ j ≤ i ∧ dj.size = d.size ∧ wr = rowU w m blk off dj ∧ Hid (insInner ltU a j dj = insInner ltU a i dk)) (fun s7 _ => (intOf s7).toNat)
      case atStart => exact ⟨i, n, dk, rfl, by omega, Nat.le_refl _, hsk, rfl, Lib.hid rfl⟩
      case round =>
        obtain ⟨j, m, dj, rfl, haj, hji, hsj, hwj, HI⟩ := hrel
        have HW := Lib.hid hwj
        have HO2 := Lib.hid (insOuter_go ltU a b i dk hib2)
        have END : Hid ((j ≤ a ∨ ltU dj[j]! dj[j - 1]! = false) → ∀ q, ∃ (i' n' : Nat) (dk' : Array Nat), Value.int .i64 ((i : Int) + 1) = .int .i64 i' ∧ a < i' ∧ i' ≤ b + 1 ∧ dk'.size = d.size ∧ wr.drewN q = rowU w n' blk off dk' ∧ Hid (insOuter ltU a b i' dk' = insOuter ltU a b (a + 1) d)) := fun hs q =>
          ⟨i + 1, m + q, dj, by go_num, by omega, by omega, hsj, by rw [HW.out]; exact putRow_drewN _ _ _ _ _ _ _, Lib.hid (by rw [← HO.out, HO2.out, ← HI.out, insInner_stop _ _ _ _ hs])⟩
        by_cases hja : a < j
        · have hjz : (j : Int) > (a : Int) := by omega
          have h1 : IntKind.i64.wrap ((j : Int) - 1) = (j : Int) - 1 := IntWalk.i64_in _ (by omega)
          have h2 : ((j : Int) - 1).toNat = j - 1 := by omega
          have c0 := rowU_cell HH.out hsj (m := m) (t := j) (by omega)
          have c1 := rowU_cell HH.out hsj (m := m) (t := j - 1) (by omega)
          have f0 := rowU_free HH.out (dk := dj) (m := m) (t := j) (by omega)
          have f1 := rowU_free HH.out (dk := dj) (m := m) (t := j - 1) (by omega)
          rw [← hwj] at c0 c1 f0 f1
          have LE := Lib.hid (fun w => lessU_any dj[j]! dj[j - 1]! w)
          have SW := Lib.hid (fun q => swap_worldA mU w m q blk off dj j (j - 1) (by omega) (by omega))
          have GO := Lib.hid (insInner_go ltU a j dj hja)
          unfold mU at LE SW
          generalize dj[j]! = x at *
          generalize dj[j - 1]! = y at *
          clear hwj
          cases hl : ltU x y with
          | true =>
            rw [hl] at LE
            go_wp2_with fail
            go_quiet (first | (go_at_call 173; refine Calls.quiet_of_same (LE.out _)))
            go_wp2
            go_region
            all_goals go_wp2
            go_roundw
            case rel => exact ⟨j - 1, m + (nq + 1), swp dj j (j - 1), by congr 1; omega, by omega, by omega, by rw [size_swp]; exact hsj, by rw [HW.out]; exact SW.out (nq + 1), Lib.hid (by rw [← HI.out, GO.out hl])⟩
            case measure => simp [intOf]; omega
          | false =>
            rw [hl] at LE
            go_wp2_with fail
            go_quiet (first | (go_at_call 173; refine Calls.quiet_of_same (LE.out _)))
            go_wp2
            go_roundw
            case rel => exact END.out (Or.inr hl) nq
            case measure => simp [intOf]; omega
        · have hjz : decide ((j : Int) > (a : Int)) = false := decide_eq_false (by omega)
          have hjz2 : decide ((a : Int) < (j : Int)) = false := decide_eq_false (by omega)
          clear hwj
          go_wp2_with fail
          go_quiet (fail)
          go_wp2
          go_roundw
          case rel => exact END.out (Or.inl (by omega)) nq
          case measure => simp [intOf]; omega
    · have hiz : ¬ (i : Int) < (b : Int) := by omega
      go_wp2
      go_end0
      exact ⟨rfl, n, by unfold Sort.insertionSort; rw [← HO.out, insOuter_stop _ _ _ _ _ hib2]⟩
end Go.Proofs.YtaehendpdfpibaaGreatDoor

/-
  slices.Sort at masks, its pieces: the reversal, the heap's sift, the heap sort.
-/
namespace Go.Proofs.YtaehendpdfpibaaGreatDoor
set_option linter.unusedSimpArgs false
set_option linter.unusedVariables false
open Go.RowKit Go.Sort Go.Lib Go.Shelf

set_option maxHeartbeats 4000000 in
set_option maxRecDepth 1000000 in
/-- reverseRangeOrdered. -/
theorem reverseU_call (blk off cap a b : Nat) (d : Array Nat) (w : World) (hH : Holds mU w blk off d) (hab : a ≤ b) (hb : b ≤ d.size) (hsz : d.size ≤ 1000) :
    Calls Tryz.prog 171 #[slU blk off d.size cap, .int .i64 a, .int .i64 b] w fun e w' => e = .returned (.tuple #[]) ∧ ∃ n, w' = rowU w n blk off (Sort.reverseRange d a b) := by
  have HH := Lib.hid hH
  have HS := Lib.hid (putRow_self _ _ _ _ _ hH).symm
  clear hH
  go_enter Tryz.func171, Tryz.ntmps171
  go_wp2
  go_loopw [6, 7] (fun s6 s7 wr => ∃ (i n : Nat) (z : Int) (dk : Array Nat), s6 = .int .i64 i ∧ s7 = .int .i64 z ∧ a ≤ i ∧ i ≤ b ∧ z = (b : Int) - 1 - ((i : Int) - (a : Int)) ∧ dk.size = d.size ∧ wr = rowU w n blk off dk ∧ Hid (reverseLoop i z.toNat dk = reverseLoop a (b - 1) d)) (fun s6 s7 _ => (intOf s7 - intOf s6).toNat)
  case atStart => exact ⟨a, 0, (b : Int) - 1, d, rfl, rfl, Nat.le_refl _, hab, by omega, rfl, HS.out, Lib.hid (by rw [show ((b : Int) - 1).toNat = b - 1 by omega])⟩
  case round =>
    obtain ⟨i, n, z, dk, rfl, rfl, hai, hib, hz, hsk, hwr, HO⟩ := hrel
    by_cases hlt : (i : Int) < z
    · obtain ⟨j, rfl⟩ : ∃ j : Nat, z = j := ⟨z.toNat, by omega⟩
      have c0 := rowU_cell HH.out hsk (m := n) (t := i) (by omega)
      have c1 := rowU_cell HH.out hsk (m := n) (t := j) (by omega)
      have f0 := rowU_free HH.out (dk := dk) (m := n) (t := i) (by omega)
      have f1 := rowU_free HH.out (dk := dk) (m := n) (t := j) (by omega)
      rw [← hwr] at c0 c1 f0 f1
      have SW := Lib.hid (fun q => swap_worldA mU w n q blk off dk i j (by omega) (by omega))
      unfold mU at SW
      have HW := Lib.hid hwr
      have HZ := Lib.hid hz
      have hjb : j < d.size := by omega
      have hib2 : i < d.size := by omega
      generalize dk[i]! = x at *
      generalize dk[j]! = y at *
      clear hwr hz
      go_wp2_with fail
      go_region
      all_goals go_wp2
      go_roundw
      case rel => exact ⟨i + 1, n + 1, (j : Int) - 1, swp dk i j, by go_num, rfl, by omega, by have := HZ.out; omega, by have := HZ.out; omega, by rw [size_swp]; exact hsk, by rw [HW.out]; exact SW.out 1, Lib.hid (by
        have h0 := HO.out
        rw [reverseLoop, if_pos (by omega)] at h0
        rw [← h0, show ((j : Int) - 1).toNat = ((j : Int)).toNat - 1 by omega, show ((j : Int)).toNat = j by omega])⟩
      case measure => simp [intOf]; omega
    · have h0 := HO.out
      rw [reverseLoop, if_neg (by omega)] at h0
      clear HO
      go_wp2
      go_end0
      exact ⟨rfl, n, by rw [Sort.reverseRange, ← h0]⟩
end Go.Proofs.YtaehendpdfpibaaGreatDoor

/-
  slices.Sort at masks, its pieces: the heap's sift.
-/
namespace Go.Proofs.YtaehendpdfpibaaGreatDoor
set_option linter.unusedSimpArgs false
set_option linter.unusedVariables false
open Go.RowKit Go.Sort Go.Lib Go.Shelf

set_option maxHeartbeats 8000000 in
set_option maxRecDepth 1000000 in
/-- siftDownOrdered. -/
theorem siftU_call (blk off cap lo hi first : Nat) (d : Array Nat) (w : World) (hH : Holds mU w blk off d) (hlo : lo ≤ hi) (hb : first + hi ≤ d.size) (hsz : d.size ≤ 1000) :
    Calls Tryz.prog 187 #[slU blk off d.size cap, .int .i64 lo, .int .i64 hi, .int .i64 first] w fun e w' => e = .returned (.tuple #[]) ∧ ∃ n, w' = rowU w n blk off (Sort.siftDown ltU hi first lo d) := by
  have mixed : Tryz.prog.follows .mixedOrders = true := by kernel_rfl
  have HH := Lib.hid hH
  have HS := Lib.hid (putRow_self _ _ _ _ _ hH).symm
  clear hH
  go_enter Tryz.func187, Tryz.ntmps187
  go_wp2
  go_loopw [8] (fun s8 wr => ∃ (root n : Nat) (dk : Array Nat), s8 = .int .i64 root ∧ root ≤ hi ∧ dk.size = d.size ∧ wr = rowU w n blk off dk ∧ Hid (Sort.siftDown ltU hi first root dk = Sort.siftDown ltU hi first lo d)) (fun s8 _ => hi - (intOf s8).toNat)
  case atStart => exact ⟨lo, 0, d, rfl, hlo, rfl, HS.out, Lib.hid rfl⟩
  case round =>
    obtain ⟨root, n, dk, rfl, hr, hsk, hwr, HO⟩ := hrel
    have HW := Lib.hid hwr
    by_cases h0 : hi ≤ 2 * root + 1
    · have h0z : (2 * (root : Int) + 1) ≥ (hi : Int) := by omega
      clear hwr
      go_wp2
      (try simp only [Exit.inBlock, Exit.then])
      first | go_end0 | refine bodyPost_ret (results_none rfl _ _ _) rfl ?_
      exact ⟨rfl, n, by rw [HW.out, ← HO.out, sd_end ltU dk h0]⟩
    · have h0z : ¬ (2 * (root : Int) + 1) ≥ (hi : Int) := by omega
      have m1 : IntKind.i64.wrap (2 * (root : Int) + 1 + 1) = 2 * (root : Int) + 1 + 1 := IntWalk.i64_in _ (by omega)
      have m2 : IntKind.i64.wrap ((first : Int) + (root : Int)) = (first : Int) + (root : Int) := IntWalk.i64_in _ (by omega)
      have m3 : IntKind.i64.wrap ((first : Int) + (2 * (root : Int) + 1)) = (first : Int) + (2 * (root : Int) + 1) := IntWalk.i64_in _ (by omega)
      have m4 : IntKind.i64.wrap ((first : Int) + (2 * (root : Int) + 1) + 1) = (first : Int) + (2 * (root : Int) + 1) + 1 := IntWalk.i64_in _ (by omega)
      have m5 : IntKind.i64.wrap ((first : Int) + (2 * (root : Int) + 1 + 1)) = (first : Int) + (2 * (root : Int) + 1 + 1) := IntWalk.i64_in _ (by omega)
      have q2 : ((first : Int) + (root : Int)).toNat = first + root := by omega
      have q3 : ((first : Int) + (2 * (root : Int) + 1)).toNat = first + (2 * root + 1) := by omega
      have q4 : ((first : Int) + (2 * (root : Int) + 1) + 1).toNat = first + (2 * root + 2) := by omega
      have q5 : ((first : Int) + (2 * (root : Int) + 1 + 1)).toNat = first + (2 * root + 2) := by omega
      have c0 := rowU_cell HH.out hsk (m := n) (t := first + root) (by omega)
      have f0 := rowU_free HH.out (dk := dk) (m := n) (t := first + root) (by omega)
      have c1 := rowU_cell HH.out hsk (m := n) (t := first + (2 * root + 1)) (by omega)
      have f1 := rowU_free HH.out (dk := dk) (m := n) (t := first + (2 * root + 1)) (by omega)
      by_cases h1 : 2 * root + 2 < hi
      · have h1z : 2 * (root : Int) + 1 + 1 < (hi : Int) := by omega
        have c2 := rowU_cell HH.out hsk (m := n) (t := first + (2 * root + 2)) (by omega)
        have f2 := rowU_free HH.out (dk := dk) (m := n) (t := first + (2 * root + 2)) (by omega)
        rw [← hwr] at c0 c1 c2 f0 f1 f2
        clear hwr
        have L1 := Lib.hid (fun w => lessU_any dk[first + (2 * root + 1)]! dk[first + (2 * root + 2)]! w)
        unfold mU at L1
        cases h2 : ltU dk[first + (2 * root + 1)]! dk[first + (2 * root + 2)]! with
        | true =>
          rw [h2] at L1
          have H2 := Lib.hid h2
          clear h2
          go_wp2_with fail
          go_quiet (first | (go_at_call 173; refine Calls.quiet_of_same (L1.out _)))
          go_wp2_with fail
          revert nq
          intro nq1
          have e0 : (wr.drewN nq1).cell? ⟨blk, off + (first + root), none⟩ = _ := c0
          have e1 : (wr.drewN nq1).cell? ⟨blk, off + (first + (2 * root + 2)), none⟩ = _ := c2
          have f0' : (wr.drewN nq1).frozen? ⟨blk, off + (first + root), none⟩ = false := f0
          have f1' : (wr.drewN nq1).frozen? ⟨blk, off + (first + (2 * root + 2)), none⟩ = false := f2
          have HW2 := Lib.hid (show wr.drewN nq1 = rowU w (n + nq1) blk off dk by rw [HW.out]; exact putRow_drewN _ _ _ _ _ _ _)
          have SW := Lib.hid (fun q => swap_worldA mU w (n + nq1) q blk off dk (first + root) (first + (2 * root + 2)) (by omega) (by omega))
          have L2 := Lib.hid (fun w => lessU_any dk[first + root]! dk[first + (2 * root + 2)]! w)
          have ST := Lib.hid (fun h3 => sd_right_stop ltU (hi := hi) (F := first) (root := root) dk h1 H2.out h3)
          have GO := Lib.hid (fun h3 => sd_right_go ltU (hi := hi) (F := first) (root := root) dk h1 H2.out h3)
          unfold mU at SW L2
          clear c0 c1 c2 f0 f1 f2 HW
          generalize wr.drewN nq1 = w2 at *
          generalize dk[first + root]! = x at *
          generalize dk[first + (2 * root + 2)]! = y at *
          cases hl : ltU x y with
          | false =>
            rw [hl] at L2
            go_quiet (first | (go_at_call 173; refine Calls.quiet_of_same (L2.out _)))
            go_wp2_with fail
            (try simp only [Exit.inBlock, Exit.then])
            refine bodyPost_ret (results_none rfl _ _ _) rfl ?_
            exact ⟨rfl, n + nq1 + nq, by rw [HW2.out, ← HO.out, ST.out hl]; exact putRow_drewN _ _ _ _ _ _ _⟩
          | true =>
            rw [hl] at L2
            go_quiet (first | (go_at_call 173; refine Calls.quiet_of_same (L2.out _)))
            go_wp2_with fail
            have e0' : (w2.drewN nq).cell? ⟨blk, off + (first + root), none⟩ = _ := e0
            have e1' : (w2.drewN nq).cell? ⟨blk, off + (first + (2 * root + 2)), none⟩ = _ := e1
            go_region
            all_goals go_wp2
            go_roundw
            case rel => exact ⟨2 * root + 2, n + nq1 + (nq + 1), swp dk (first + root) (first + (2 * root + 2)), by go_num, by omega, by rw [size_swp]; exact hsk, by rw [HW2.out]; exact SW.out (nq + 1), Lib.hid (by rw [← HO.out, GO.out hl])⟩
            case measure => simp [intOf]; omega
        | false =>
          rw [h2] at L1
          have H2 := Lib.hid h2
          clear h2
          go_wp2_with fail
          go_quiet (first | (go_at_call 173; refine Calls.quiet_of_same (L1.out _)))
          go_wp2_with fail
          revert nq
          intro nq1
          have e0 : (wr.drewN nq1).cell? ⟨blk, off + (first + root), none⟩ = _ := c0
          have e1 : (wr.drewN nq1).cell? ⟨blk, off + (first + (2 * root + 1)), none⟩ = _ := c1
          have f0' : (wr.drewN nq1).frozen? ⟨blk, off + (first + root), none⟩ = false := f0
          have f1' : (wr.drewN nq1).frozen? ⟨blk, off + (first + (2 * root + 1)), none⟩ = false := f1
          have HW2 := Lib.hid (show wr.drewN nq1 = rowU w (n + nq1) blk off dk by rw [HW.out]; exact putRow_drewN _ _ _ _ _ _ _)
          have SW := Lib.hid (fun q => swap_worldA mU w (n + nq1) q blk off dk (first + root) (first + (2 * root + 1)) (by omega) (by omega))
          have L2 := Lib.hid (fun w => lessU_any dk[first + root]! dk[first + (2 * root + 1)]! w)
          have ST := Lib.hid (fun h3 => sd_left_stop ltU (hi := hi) (F := first) (root := root) dk (by omega) (fun _ => H2.out) h3)
          have GO := Lib.hid (fun h3 => sd_left_go ltU (hi := hi) (F := first) (root := root) dk (by omega) (fun _ => H2.out) h3)
          unfold mU at SW L2
          clear c0 c1 c2 f0 f1 f2 HW
          generalize wr.drewN nq1 = w2 at *
          generalize dk[first + root]! = x at *
          generalize dk[first + (2 * root + 1)]! = y at *
          cases hl : ltU x y with
          | false =>
            rw [hl] at L2
            go_quiet (first | (go_at_call 173; refine Calls.quiet_of_same (L2.out _)))
            go_wp2_with fail
            (try simp only [Exit.inBlock, Exit.then])
            refine bodyPost_ret (results_none rfl _ _ _) rfl ?_
            exact ⟨rfl, n + nq1 + nq, by rw [HW2.out, ← HO.out, ST.out hl]; exact putRow_drewN _ _ _ _ _ _ _⟩
          | true =>
            rw [hl] at L2
            go_quiet (first | (go_at_call 173; refine Calls.quiet_of_same (L2.out _)))
            go_wp2_with fail
            have e0' : (w2.drewN nq).cell? ⟨blk, off + (first + root), none⟩ = _ := e0
            have e1' : (w2.drewN nq).cell? ⟨blk, off + (first + (2 * root + 1)), none⟩ = _ := e1
            go_region
            all_goals go_wp2
            go_roundw
            case rel => exact ⟨2 * root + 1, n + nq1 + (nq + 1), swp dk (first + root) (first + (2 * root + 1)), by go_num, by omega, by rw [size_swp]; exact hsk, by rw [HW2.out]; exact SW.out (nq + 1), Lib.hid (by rw [← HO.out, GO.out hl])⟩
            case measure => simp [intOf]; omega
      · have h1z : decide (2 * (root : Int) + 1 + 1 < (hi : Int)) = false := decide_eq_false (by omega)
        rw [← hwr] at c0 c1 f0 f1
        clear hwr
        have c2 : True := trivial
        have f2 : True := trivial
        go_wp2_with fail
        go_quiet (fail)
        go_wp2_with fail
        revert nq
        intro nq1
        have e0 : (wr.drewN nq1).cell? ⟨blk, off + (first + root), none⟩ = _ := c0
        have e1 : (wr.drewN nq1).cell? ⟨blk, off + (first + (2 * root + 1)), none⟩ = _ := c1
        have f0' : (wr.drewN nq1).frozen? ⟨blk, off + (first + root), none⟩ = false := f0
        have f1' : (wr.drewN nq1).frozen? ⟨blk, off + (first + (2 * root + 1)), none⟩ = false := f1
        have HW2 := Lib.hid (show wr.drewN nq1 = rowU w (n + nq1) blk off dk by rw [HW.out]; exact putRow_drewN _ _ _ _ _ _ _)
        have SW := Lib.hid (fun q => swap_worldA mU w (n + nq1) q blk off dk (first + root) (first + (2 * root + 1)) (by omega) (by omega))
        have L2 := Lib.hid (fun w => lessU_any dk[first + root]! dk[first + (2 * root + 1)]! w)
        have ST := Lib.hid (fun h3 => sd_left_stop ltU (hi := hi) (F := first) (root := root) dk (by omega) (fun h => absurd h h1) h3)
        have GO := Lib.hid (fun h3 => sd_left_go ltU (hi := hi) (F := first) (root := root) dk (by omega) (fun h => absurd h h1) h3)
        unfold mU at SW L2
        clear c0 c1 c2 f0 f1 f2 HW
        generalize wr.drewN nq1 = w2 at *
        generalize dk[first + root]! = x at *
        generalize dk[first + (2 * root + 1)]! = y at *
        cases hl : ltU x y with
        | false =>
          rw [hl] at L2
          go_quiet (first | (go_at_call 173; refine Calls.quiet_of_same (L2.out _)))
          go_wp2_with fail
          (try simp only [Exit.inBlock, Exit.then])
          refine bodyPost_ret (results_none rfl _ _ _) rfl ?_
          exact ⟨rfl, n + nq1 + nq, by rw [HW2.out, ← HO.out, ST.out hl]; exact putRow_drewN _ _ _ _ _ _ _⟩
        | true =>
          rw [hl] at L2
          go_quiet (first | (go_at_call 173; refine Calls.quiet_of_same (L2.out _)))
          go_wp2_with fail
          have e0' : (w2.drewN nq).cell? ⟨blk, off + (first + root), none⟩ = _ := e0
          have e1' : (w2.drewN nq).cell? ⟨blk, off + (first + (2 * root + 1)), none⟩ = _ := e1
          go_region
          all_goals go_wp2
          go_roundw
          case rel => exact ⟨2 * root + 1, n + nq1 + (nq + 1), swp dk (first + root) (first + (2 * root + 1)), by go_num, by omega, by rw [size_swp]; exact hsk, by rw [HW2.out]; exact SW.out (nq + 1), Lib.hid (by rw [← HO.out, GO.out hl])⟩
          case measure => simp [intOf]; omega
end Go.Proofs.YtaehendpdfpibaaGreatDoor
