import Derived.Test.YtaehendpdfpibaaGreatDoorZ17
import Derived.Sort.WalkA6
import Derived.Test.YtaehendpdfpibaaGreatDoorZ16
import Derived.Sort.WalkD1
import Derived.Sort.Walk13a
import Derived.Sort.LotD4
import Derived.Sort.Walk7a

/-
  slices.Sort at masks, its pieces: the partial insertion sort, of rows shorter than 50: it only looks.
-/
namespace Go.Proofs.YtaehendpdfpibaaGreatDoor
set_option linter.unusedSimpArgs false
set_option linter.unusedVariables false
open Go.RowKit Go.Sort Go.Lib Go.Shelf

set_option maxHeartbeats 8000000 in
set_option maxRecDepth 1000000 in
/-- partialInsertionSortOrdered. -/
theorem partialU_call (blk off cap a b : Nat) (d : Array Nat) (w : World) (hH : Holds mU w blk off d) (hab : a < b) (hb : b ≤ d.size) (hsz : d.size < 50) :
    Calls Tryz.prog 172 #[slU blk off d.size cap, .int .i64 a, .int .i64 b] w fun e w' => e = .returned (.bool (Sort.partialInsertionSort ltU d a b).2) ∧ ∃ n, w' = rowU w n blk off (Sort.partialInsertionSort ltU d a b).1 := by
  have mixed : Tryz.prog.follows .mixedOrders = true := by kernel_rfl
  have HH := Lib.hid hH
  have HS := Lib.hid (putRow_self _ _ _ _ _ hH).symm
  have h50 : (b : Int) - (a : Int) < 50 := by omega
  clear hH
  go_enter Tryz.func172, Tryz.ntmps172
  go_wp2
  go_loopw [7, 8] (fun s7 s8 wr => s7 = .int .i64 (a + 1 : Nat) ∧ s8 = .int .i64 0 ∧ wr = rowU w 0 blk off d) (fun _ _ _ => 0)
  case atStart => exact ⟨by go_num, rfl, HS.out⟩
  case round =>
    obtain ⟨rfl, rfl, hwr⟩ := hrel
    have HW0 := Lib.hid hwr
    clear hwr
    go_wp2
    go_loopw [7] (fun s7 wr => ∃ (k m : Nat), s7 = .int .i64 k ∧ a + 1 ≤ k ∧ k ≤ b ∧ wr = rowU w m blk off d ∧ Hid (scanSorted ltU d b k = scanSorted ltU d b (a + 1))) (fun s7 _ => b - (intOf s7).toNat)
    case atStart => exact ⟨a + 1, 0, by go_num, Nat.le_refl _, by omega, HW0.out, Lib.hid rfl⟩
    case round =>
      obtain ⟨k, m, rfl, hak, hkb, hwr, HK⟩ := hrel
      have HW := Lib.hid hwr
      by_cases hk : k < b
      · have hkz : (k : Int) < (b : Int) := by omega
        have hne : ¬ (k : Int) = (b : Int) := by omega
        have m1 : IntKind.i64.wrap ((k : Int) - 1) = (k : Int) - 1 := IntWalk.i64_in _ (by omega)
        have q1 : ((k : Int) - 1).toNat = k - 1 := by omega
        have c0 := rowU_cell HH.out rfl (m := m) (t := k) (by omega)
        have c1 := rowU_cell HH.out rfl (m := m) (t := k - 1) (by omega)
        rw [← hwr] at c0 c1
        have L1 := Lib.hid (fun w => lessU_any d[k]! d[k - 1]! w)
        have GO := Lib.hid (scanSorted_go ltU d b k hk)
        have ST := Lib.hid (fun h => scanSorted_stop ltU d b k (Or.inr h))
        unfold mU at L1
        generalize d[k]! = x at *
        generalize d[k - 1]! = y at *
        clear hwr
        cases hl : ltU x y with
        | false =>
          rw [hl] at L1
          go_wp2_with fail
          go_quiet (first | (go_at_call 173; refine Calls.quiet_of_same (L1.out _)))
          go_wp2
          go_roundw
          case rel => exact ⟨k + 1, m + nq, by go_num, by omega, by omega, by rw [HW.out]; exact putRow_drewN _ _ _ _ _ _ _, Lib.hid ((GO.out hl).symm.trans HK.out)⟩
          case measure => simp [intOf]; omega
        | true =>
          rw [hl] at L1
          have hv := Lib.hid (show Sort.partialInsertionSort ltU d a b = (d, false) from pi_short ltU a b 0 (a + 1) d (by omega) (by rw [← HK.out, ST.out hl]; omega) (by omega))
          go_wp2_with fail
          go_quiet (first | (go_at_call 173; refine Calls.quiet_of_same (L1.out _)))
          go_wp2
          go_ret
          exact ⟨by rw [hv.out]; rfl, m + nq, by rw [hv.out, HW.out]; exact putRow_drewN _ _ _ _ _ _ _⟩
      · obtain rfl : k = b := by omega
        have hv := Lib.hid (show Sort.partialInsertionSort ltU d a k = (d, true) from pi_true ltU a k 0 (a + 1) d (by omega) (by rw [← HK.out, scanSorted_stop ltU d k k (Or.inl (by omega))]))
        have hkz : decide ((k : Int) < (k : Int)) = false := decide_eq_false (by omega)
        clear hwr
        go_wp2_with fail
        go_quiet (fail)
        go_wp2
        go_ret
        exact ⟨by rw [hv.out]; rfl, m + nq, by rw [hv.out, HW.out]; exact putRow_drewN _ _ _ _ _ _ _⟩
end Go.Proofs.YtaehendpdfpibaaGreatDoor

/-
  slices.Sort at masks, its pieces: two places in order, with the exchanges counted.
-/
namespace Go.Proofs.YtaehendpdfpibaaGreatDoor
set_option linter.unusedSimpArgs false
set_option linter.unusedVariables false
open Go.RowKit Go.Sort Go.Lib Go.Shelf

set_option maxHeartbeats 4000000 in
set_option maxRecDepth 1000000 in
/-- order2Ordered. -/
theorem order2U_call (d : Array Nat) (blk off cap a b sb s : Nat) (w : World) (hH : Holds mU w blk off d) (ha : a < d.size) (hb : b < d.size) (hS : Holds (Value.int .i64) w sb 0 (one s)) (hs : s ≤ 1000) (hsz : d.size ≤ 1000) :
    Calls Tryz.prog 196 #[slU blk off d.size cap, .int .i64 a, .int .i64 b, .pointer (some ⟨sb, 0, none⟩)] w fun e w' => e = .returned (.tuple #[.int .i64 ((order2 ltU d a b s).1 : Nat), .int .i64 ((order2 ltU d a b s).2.1 : Nat)]) ∧ ∃ n, w' = putRow (Value.int .i64) (Sort.ahead w n) sb 0 (one (order2 ltU d a b s).2.2) := by
  have mixed : Tryz.prog.follows .mixedOrders = true := by kernel_rfl
  have ca : w.cell? ⟨blk, off + a, none⟩ = some (.int .u64 (d[a]! : Nat)) := (hH a ha).1
  have cb : w.cell? ⟨blk, off + b, none⟩ = some (.int .u64 (d[b]! : Nat)) := (hH b hb).1
  obtain ⟨cs, fs⟩ := one_cell hS
  have L1 := Lib.hid (fun w => lessU_any d[b]! d[a]! w)
  have HS := Lib.hid hS
  unfold order2
  unfold mU at L1
  obtain ⟨y, hy⟩ : ∃ y, d[b]! = y := ⟨_, rfl⟩
  obtain ⟨x, hx⟩ : ∃ x, d[a]! = x := ⟨_, rfl⟩
  rw [hy] at cb L1 ⊢
  rw [hx] at ca L1 ⊢
  clear hx hy hS hH
  cases hl : ltU y x with
  | true =>
    rw [hl] at L1
    simp only [if_true]
    clear hl
    go_enter Tryz.func196, Tryz.ntmps196
    go_wp2_with fail
    go_quiet (first | (go_at_call 173; refine Calls.quiet_of_same (L1.out _)))
    go_wp2
    go_ret2
    refine ⟨rfl, nq, ?_⟩
    rw [putRow_ahead, ← one_set HS.out (s + 1)]
    rfl
  | false =>
    rw [hl] at L1
    simp only [Bool.false_eq_true, if_false]
    clear hl
    go_enter Tryz.func196, Tryz.ntmps196
    go_wp2_with fail
    go_quiet (first | (go_at_call 173; refine Calls.quiet_of_same (L1.out _)))
    go_wp2
    go_ret2
    refine ⟨rfl, nq, ?_⟩
    rw [putRow_ahead, putRow_self _ _ _ _ _ HS.out]
    rfl

theorem cntU_aside {w : World} {blk off sb n t : Nat} {d : Array Nat} (h : Holds mU w blk off d) (hne : sb ≠ blk) : Holds mU (putRow (Value.int .i64) (Sort.ahead w n) sb 0 (one t)) blk off d := fun j hj =>
  ⟨by rw [cell?_putRow_other _ _ _ _ _ _ (Or.inl (Ne.symm hne))]; exact (h j hj).1, by rw [frozen?_putRow]; exact (h j hj).2⟩
theorem order2U_in (d : Array Nat) {a b n s : Nat} (ha : a < n) (hb : b < n) : (order2 ltU d a b s).1 < n ∧ (order2 ltU d a b s).2.1 < n ∧ (order2 ltU d a b s).2.2 ≤ s + 1 := by
  unfold order2
  split
  · exact ⟨hb, ha, Nat.le_refl _⟩
  · exact ⟨ha, hb, Nat.le_succ _⟩
set_option maxHeartbeats 4000000 in
set_option maxRecDepth 1000000 in
/-- medianOrdered. -/
theorem medianU_call (d : Array Nat) (blk off cap a b c sb s : Nat) (w : World) (hH : Holds mU w blk off d) (ha : a < d.size) (hb : b < d.size) (hc : c < d.size) (hne : sb ≠ blk) (hS : Holds (Value.int .i64) w sb 0 (one s)) (hs : s ≤ 900) (hsz : d.size ≤ 1000) :
    Calls Tryz.prog 191 #[slU blk off d.size cap, .int .i64 a, .int .i64 b, .int .i64 c, .pointer (some ⟨sb, 0, none⟩)] w fun e w' => e = .returned (.int .i64 ((median ltU d a b c s).1 : Nat)) ∧ ∃ n, w' = putRow (Value.int .i64) (Sort.ahead w n) sb 0 (one (median ltU d a b c s).2) := by
  obtain ⟨p1, q1, s1, e1⟩ : ∃ p q t, order2 ltU d a b s = (p, q, t) := ⟨_, _, _, rfl⟩
  have i1 := order2U_in d (s := s) ha hb
  rw [e1] at i1
  obtain ⟨p2, q2, s2, e2⟩ : ∃ p q t, order2 ltU d q1 c s1 = (p, q, t) := ⟨_, _, _, rfl⟩
  have i2 := order2U_in d (s := s1) i1.2.1 hc
  rw [e2] at i2
  obtain ⟨p3, q3, s3, e3⟩ : ∃ p q t, order2 ltU d p1 p2 s2 = (p, q, t) := ⟨_, _, _, rfl⟩
  dsimp only at i1 i2
  have hm : median ltU d a b c s = (q3, s3) := by simp only [median, e1, e2, e3]
  have C1 := Lib.hid (order2U_call d blk off cap a b sb s w hH ha hb hS (by omega) hsz)
  have C2 := Lib.hid (fun n => order2U_call d blk off cap q1 c sb s1 (putRow (Value.int .i64) (Sort.ahead w n) sb 0 (one s1)) (cntU_aside hH hne) i1.2.1 hc (holds_one hS) (by omega) hsz)
  have C3 := Lib.hid (fun n m => order2U_call d blk off cap p1 p2 sb s2 (putRow (Value.int .i64) (Sort.ahead (putRow (Value.int .i64) (Sort.ahead w n) sb 0 (one s1)) m) sb 0 (one s2)) (cntU_aside (cntU_aside hH hne) hne) i1.1 i2.1 (holds_one (holds_one hS)) (by omega) hsz)
  rw [e1] at C1
  rw [e2] at C2
  rw [e3] at C3
  dsimp only at C1 C2 C3
  rw [hm]
  clear e1 e2 e3 hm hH hS i1 i2
  go_enter Tryz.func191, Tryz.ntmps191
  go_wp2_with fail
  refine C1.out.mono ?_
  rintro e w1 ⟨rfl, n1, rfl⟩
  go_wp2_with fail
  refine (C2.out n1).mono ?_
  rintro e w1 ⟨rfl, n2, rfl⟩
  go_wp2_with fail
  refine (C3.out n1 n2).mono ?_
  rintro e w1 ⟨rfl, n3, rfl⟩
  go_wp2
  go_ret
  exact ⟨rfl, n1 + (n2 + n3), by rw [one_one, one_one]⟩
end Go.Proofs.YtaehendpdfpibaaGreatDoor

/-
  slices.Sort at masks, its pieces: the pivot, of rows shorter than 50.
-/
namespace Go.Proofs.YtaehendpdfpibaaGreatDoor
set_option linter.unusedSimpArgs false
set_option linter.unusedVariables false
open Go.RowKit Go.Sort Go.Lib Go.Shelf

theorem counterU (w : World) (N S : Nat) : ∃ os, putRow (Value.int .i64) (Sort.ahead (w.alloc (.cells #[.int .i64 0] 3)) N) w.heap.size 0 (one S) = grow (Sort.ahead w N) os := by
  rw [alloc_eq_grow, ahead_grow]
  exact (putRow_grow_new (Value.int .i64) (Sort.ahead w N) #[.cells #[.int .i64 0] 3] w.heap.size 0 (one S) (Nat.le_refl _)).imp fun _ h => h.2
set_option maxHeartbeats 4000000 in
set_option maxRecDepth 1000000 in
/-- choosePivotOrdered. -/
theorem pivotU_call (blk off cap a b : Nat) (d : Array Nat) (w : World) (hH : Holds mU w blk off d) (hblk : blk < w.heap.size) (hab : a < b) (hb : b ≤ d.size) (hsz : d.size < 50) :
    Calls Tryz.prog 170 #[slU blk off d.size cap, .int .i64 a, .int .i64 b] w fun e w' => e = .returned (.tuple #[.int .i64 ((choosePivot ltU d a b).1 : Nat), .int .i64 (hintCode (choosePivot ltU d a b).2)]) ∧ ∃ n os, w' = grow (Sort.ahead w n) os := by
  have hne : w.heap.size ≠ blk := by omega
  have hH0 : Holds mU (w.alloc (.cells #[.int .i64 0] 3)) blk off d := by rw [alloc_eq_grow]; exact holds_grow _ _ _ _ _ _ hblk hH
  have hS0 : Holds (Value.int .i64) (w.alloc (.cells #[.int .i64 0] 3)) w.heap.size 0 (one 0) := fun j hj => by
    obtain rfl : j = 0 := by simpa using hj
    simp
  have HG := Lib.hid (fun N S => counterU w N S)
  have HG0 := Lib.hid (show ∃ os, w.alloc (.cells #[.int .i64 0] 3) = grow (Sort.ahead w 0) os from ⟨_, alloc_eq_grow _ _⟩)
  obtain ⟨J, hJ⟩ : ∃ J : Nat, J = a + (b - a) / 4 * 2 := ⟨_, rfl⟩
  have eJ : ((a : Int) + ((b : Int) - (a : Int)) / 4 * 2) = (J : Int) := by omega
  have hl : ¬ (b : Int) - (a : Int) ≥ 50 := by omega
  rw [choosePivot_eq]
  by_cases h8 : b - a ≥ 8
  · have h8z : (b : Int) - (a : Int) ≥ 8 := by omega
    obtain ⟨I, hI⟩ : ∃ I : Nat, I = a + (b - a) / 4 * 1 := ⟨_, rfl⟩
    obtain ⟨K, hK⟩ : ∃ K : Nat, K = a + (b - a) / 4 * 3 := ⟨_, rfl⟩
    have eI : ((a : Int) + ((b : Int) - (a : Int)) / 4) = (I : Int) := by omega
    have eK : ((a : Int) + ((b : Int) - (a : Int)) / 4 * 3) = (K : Int) := by omega
    obtain ⟨p, s, h4⟩ : ∃ p s, median ltU d I J K 0 = (p, s) := ⟨_, _, rfl⟩
    have hraw : rawPivot ltU d a b = (p, s) := by simp only [rawPivot, if_pos h8, if_neg (show ¬ b - a ≥ 50 by omega), ← hI, ← hJ, ← hK, h4]
    have CM := Lib.hid (medianU_call d blk off cap I J K w.heap.size 0 _ hH0 (by omega) (by omega) (by omega) hne hS0 (by omega) (by omega))
    rw [h4] at CM
    rw [hraw]
    have HC := Lib.hid (fun n => (one_cell (holds_one (n := n) (t := s) hS0)).1)
    have HCL := Lib.hid (fun n => cell_lt (HC.out n))
    clear hraw h4 hI hJ hK hH hH0 hS0
    dsimp only at *
    by_cases hs0 : s = 0
    · subst hs0
      go_enter Tryz.func170, Tryz.ntmps170
      go_wp2_with fail
      refine CM.out.mono ?_
      rintro e w1 ⟨rfl, n1, rfl⟩
      have c0 := HC.out n1
      have c1 := HCL.out n1
      go_wp2
      go_ret2
      exact ⟨rfl, n1, HG.out n1 0⟩
    · by_cases hs2 : s = 12
      · subst hs2
        go_enter Tryz.func170, Tryz.ntmps170
        go_wp2_with fail
        refine CM.out.mono ?_
        rintro e w1 ⟨rfl, n1, rfl⟩
        have c0 := HC.out n1
        have c1 := HCL.out n1
        go_wp2
        go_ret2
        exact ⟨rfl, n1, HG.out n1 12⟩
      · have z0 : ¬ (s : Int) = 0 := by omega
        have z2 : ¬ (s : Int) = 12 := by omega
        have HH := Lib.hid (show hintOf s = .unknown by unfold hintOf; rw [if_neg hs0, if_neg hs2])
        go_enter Tryz.func170, Tryz.ntmps170
        go_wp2_with fail
        refine CM.out.mono ?_
        rintro e w1 ⟨rfl, n1, rfl⟩
        have c0 := HC.out n1
        have c1 := HCL.out n1
        go_wp2
        go_ret2
        exact ⟨by rw [HH.out]; rfl, n1, HG.out n1 s⟩
  · have h8z : ¬ (b : Int) - (a : Int) ≥ 8 := by omega
    have hraw : rawPivot ltU d a b = (J, 0) := by simp only [rawPivot, if_neg h8, ← hJ]
    rw [hraw]
    clear hraw hJ hH hH0 hS0
    go_enter Tryz.func170, Tryz.ntmps170
    go_wp2
    go_ret2
    exact ⟨rfl, 0, HG0.out⟩
end Go.Proofs.YtaehendpdfpibaaGreatDoor

/-
  slices.Sort at masks, its pieces: bits.Len of numbers below 50, the next power of two, the shifted random numbers.
-/
namespace Go.Proofs.YtaehendpdfpibaaGreatDoor
set_option linter.unusedSimpArgs false
set_option linter.unusedVariables false
open Go.RowKit Go.Sort Go.Lib Go.Shelf

set_option maxHeartbeats 8000000 in
set_option maxRecDepth 1000000 in
theorem lenU_call (n : Nat) (hn : n < 50) (w : World) : Calls Tryz.prog 160 #[.int .u64 n] w fun e w' => e = .returned (.int .i64 (bitsLen n : Nat)) ∧ w' = w := by
  have hc : n = 0 ∨ n = 1 ∨ n = 2 ∨ n = 3 ∨ n = 4 ∨ n = 5 ∨ n = 6 ∨ n = 7 ∨ n = 8 ∨ n = 9 ∨ n = 10 ∨ n = 11 ∨ n = 12 ∨ n = 13 ∨ n = 14 ∨ n = 15 ∨ n = 16 ∨ n = 17 ∨ n = 18 ∨ n = 19 ∨ n = 20 ∨ n = 21 ∨ n = 22 ∨ n = 23 ∨ n = 24 ∨ n = 25 ∨ n = 26 ∨ n = 27 ∨ n = 28 ∨ n = 29 ∨ n = 30 ∨ n = 31 ∨ n = 32 ∨ n = 33 ∨ n = 34 ∨ n = 35 ∨ n = 36 ∨ n = 37 ∨ n = 38 ∨ n = 39 ∨ n = 40 ∨ n = 41 ∨ n = 42 ∨ n = 43 ∨ n = 44 ∨ n = 45 ∨ n = 46 ∨ n = 47 ∨ n = 48 ∨ n = 49 := by omega
  clear hn
  rcases hc with rfl | rfl | rfl | rfl | rfl | rfl | rfl | rfl | rfl | rfl | rfl | rfl | rfl | rfl | rfl | rfl | rfl | rfl | rfl | rfl | rfl | rfl | rfl | rfl | rfl | rfl | rfl | rfl | rfl | rfl | rfl | rfl | rfl | rfl | rfl | rfl | rfl | rfl | rfl | rfl | rfl | rfl | rfl | rfl | rfl | rfl | rfl | rfl | rfl | rfl
  all_goals
    go_enter Tryz.func160, Tryz.ntmps160
    go_wp2
    go_ret
    exact ⟨congrArg (fun z : Int => Ending.returned (Value.int IntKind.i64 z)) (by decide +kernel), rfl⟩
set_option maxHeartbeats 4000000 in
set_option maxRecDepth 1000000 in
/-- nextPowerOfTwo. -/
theorem powU_call (n : Nat) (hn : n < 50) (w : World) : Calls Tryz.prog 188 #[.int .i64 n] w fun e w' => e = .returned (.int .u64 ((1 <<< bitsLen n : Nat) : Int)) ∧ w' = w := by
  have hu : IntKind.u64.wrap (n : Int) = n := by rw [IntKind.wrap_u64]; omega
  have CL := Lib.hid (lenU_call n hn w)
  have hk : bitsLen n ≤ 62 := (bitsLen_le_iff n 62).2 (by omega)
  have hp := wrap_two_pow (bitsLen n) hk
  generalize bitsLen n = k at *
  go_enter Tryz.func188, Tryz.ntmps188
  go_wp2_with fail
  refine CL.out.mono ?_
  rintro e w1 ⟨rfl, rfl⟩
  go_wp2
  go_ret
  exact ⟨by simp [hp], rfl⟩
end Go.Proofs.YtaehendpdfpibaaGreatDoor

/-
  slices.Sort at masks, its pieces: the shifted random numbers.
-/
namespace Go.Proofs.YtaehendpdfpibaaGreatDoor
set_option linter.unusedSimpArgs false
set_option linter.unusedVariables false
open Go.RowKit Go.Sort Go.Lib Go.Shelf

set_option maxHeartbeats 4000000 in
set_option maxRecDepth 1000000 in
/-- xorshift.Next. -/
theorem xorU_call (rb X : Nat) (hX : X < 18446744073709551616) (w : World) (hc : w.cell? ⟨rb, 0, none⟩ = some (.int .u64 X)) (hf : w.frozen? ⟨rb, 0, none⟩ = false) :
    Calls Tryz.prog 189 #[.pointer (some ⟨rb, 0, none⟩)] w fun e w' => e = .returned (.int .u64 (xorNextN X : Nat)) ∧ w' = (w.setCell ⟨rb, 0, none⟩ (.int .u64 (xorNextN X : Nat))).drewN 3 := by
  obtain ⟨a, ha⟩ : ∃ a : Nat, a = X ^^^ (X * 8192 % 18446744073709551616) := ⟨_, rfl⟩
  obtain ⟨b, hb⟩ : ∃ b : Nat, b = a ^^^ (a / 128) := ⟨_, rfl⟩
  obtain ⟨c, hc3⟩ : ∃ c : Nat, c = b ^^^ (b * 131072 % 18446744073709551616) := ⟨_, rfl⟩
  have la : a < 18446744073709551616 := by rw [ha]; exact Nat.xor_lt_two_pow (n := 64) (by omega) (by omega)
  have lb : b < 18446744073709551616 := by rw [hb]; exact Nat.xor_lt_two_pow (n := 64) (by omega) (by omega)
  have e1 : bits .xor .u64 (X : Int) (IntKind.u64.wrap ((X : Int) * 8192)) = (a : Int) := by
    have h : (X : Int) * 8192 % 18446744073709551616 = ((X * 8192 % 18446744073709551616 : Nat) : Int) := by omega
    rw [IntKind.wrap_u64, h, bits_xor_u64_nat _ _ hX (by omega), ha]
  have e2 : bits .xor .u64 (a : Int) ((a : Int) / 128) = (b : Int) := by
    have h : (a : Int) / 128 = ((a / 128 : Nat) : Int) := by omega
    rw [h, bits_xor_u64_nat _ _ la (by omega), hb]
  have e3 : bits .xor .u64 (b : Int) (IntKind.u64.wrap ((b : Int) * 131072)) = (c : Int) := by
    have h : (b : Int) * 131072 % 18446744073709551616 = ((b * 131072 % 18446744073709551616 : Nat) : Int) := by omega
    rw [IntKind.wrap_u64, h, bits_xor_u64_nat _ _ lb (by omega), hc3]
  have hv : xorNextN X = c := by unfold xorNextN; simp only []; rw [← ha, ← hb, ← hc3]
  have hss := setCell_setCell w rb 0
  rw [hv]
  clear ha hb hc3 hv
  go_enter Tryz.func189, Tryz.ntmps189
  go_wp2
  go_region
  all_goals go_wp2
  all_goals go_region
  all_goals go_wp2
  all_goals go_region
  all_goals go_wp2
  go_ret
  exact ⟨rfl, rfl⟩
end Go.Proofs.YtaehendpdfpibaaGreatDoor
