import Derived.Test.YtaehendpdfpibaaGreatDoorZ19
import Derived.Test.YtaehendpdfpibaaGreatDoorZ18
import Derived.Test.YtaehendpdfpibaaGreatDoorZ20
import Derived.Test.YtaehendpdfpibaaGreatDoorZ16
import Derived.Sort.AssemblyPlain
import Derived.Deep.CutRange
import Derived.Deep.LoopGhost

/-
  slices.Sort at masks, its pieces: pdqsort, of rows shorter than 50.
-/
namespace Go.Proofs.YtaehendpdfpibaaGreatDoor
set_option linter.unusedSimpArgs false
set_option linter.unusedVariables false
open Go.RowKit Go.Sort Go.Lib Go.Shelf

theorem swoU : SWO ltU := ⟨by simp [ltU], by simp [ltU]; omega, by simp [ltU]; omega⟩
theorem hintU_two {h : Hint} (e : hintCode h = 2) : h = .decreasing := by cases h <;> simp [hintCode] at e ⊢
theorem eighthU {x y p q : Nat} (h1 : q ≤ p) (h2 : y ≤ x) : decide (((x : Int) - (y : Int)) / 8 ≤ (p : Int) - (q : Int)) = decide (p - q ≥ (x - y) / 8) :=
  decide_eq_decide.2 ⟨fun h => by omega, fun h => by omega⟩
set_option maxHeartbeats 16000000 in
set_option maxRecDepth 1000000 in
/-- pdqsortOrdered. -/
theorem pdqU_call : ∀ (N blk off cap a b limit : Nat) (d : Array Nat) (w : World), b - a < N → Holds mU w blk off d → blk < w.heap.size → a ≤ b → b ≤ d.size → d.size < 50 → limit < 4611686018427387904 → Sort.Below ltU a b d →
    Calls Tryz.prog 159 #[slU blk off d.size cap, .int .i64 a, .int .i64 b, .int .i64 limit] w fun e w' => e = .returned (.tuple #[]) ∧ At mU w blk off (pdq ltU d a b limit true true) w' := by
  intro N
  induction N with
  | zero => intro _ _ _ _ _ _ _ _ h; exact absurd h (Nat.not_lt_zero _)
  | succ N ih =>
    intro blk off cap a b limit d w hN hH hblk hab hb hsz hlimit hBel0
    have HH := Lib.hid hH
    have IH := Lib.hid ih
    have HB0 := Lib.hid hBel0
    clear ih hH hBel0
    go_enter Tryz.func159, Tryz.ntmps159
    go_wp2
    go_loopg [1, 2, 3, 8, 9] (b - a) (fun k s1 s2 s3 s8 s9 wr => ∃ (a' b' lim : Nat) (wb wp : Bool) (dk : Array Nat), s1 = .int .i64 a' ∧ s2 = .int .i64 b' ∧ s3 = .int .i64 lim ∧ s8 = .bool wb ∧ s9 = .bool wp ∧
      a' ≤ b' ∧ b' ≤ d.size ∧ b' - a' ≤ k ∧ k ≤ b - a ∧ lim ≤ limit ∧ dk.size = d.size ∧ Hid (Sort.Below ltU a' b' dk) ∧ Hid (At mU w blk off dk wr) ∧ Hid (pdq ltU dk a' b' lim wb wp = pdq ltU d a b limit true true))
    case atStart => exact ⟨a, b, limit, true, true, d, rfl, rfl, rfl, rfl, rfl, hab, hb, Nat.le_refl _, Nat.le_refl _, Nat.le_refl _, rfl, HB0, Lib.hid (At.refl HH.out), Lib.hid rfl⟩
    case round =>
      obtain ⟨a', b', lim, wb, wp, dk, rfl, rfl, rfl, rfl, rfl, hab', hb', hk, hkN, hlim, hds, HBel, HAt, A⟩ := hrel
      have h9 := HAt.out.holds HH.out hds hblk
      have HHk := Lib.hid h9.1
      have hblk' := h9.2
      clear h9
      by_cases h12 : b' - a' ≤ 12
      · have h12z : (b' : Int) - (a' : Int) ≤ 12 := by omega
        have hc := insertU_call blk off cap a' b' dk wr HHk.out hab' (by omega) (by omega)
        rw [hds] at hc
        have HC := Lib.hid hc
        clear hc
        go_wp2_with fail
        refine HC.out.mono ?_
        rintro e w1 ⟨rfl, hw1⟩
        go_wp2
        (try simp only [Exit.inBlock, Exit.then])
        refine bodyPost_ret (results_none rfl _ _ _) rfl ?_
        refine ⟨rfl, ?_⟩
        rw [← A.out, pdq_small h12]
        exact HAt.out.step hblk (insertionSort_holds swoU dk a' b' hab' (by omega)).1.1 hw1
      · have h12z : ¬ ((b' : Int) - (a' : Int) ≤ 12) := by omega
        by_cases hl0 : lim = 0
        · subst hl0
          have hc := heapU_call blk off cap a' b' dk wr HHk.out hab' (by omega) (by omega)
          rw [hds] at hc
          have HC := Lib.hid hc
          clear hc
          go_wp2_with fail
          refine HC.out.mono ?_
          rintro e w1 ⟨rfl, hw1⟩
          go_wp2
          (try simp only [Exit.inBlock, Exit.then])
          refine bodyPost_ret (results_none rfl _ _ _) rfl ?_
          refine ⟨rfl, ?_⟩
          rw [← A.out, pdq_heap h12 rfl]
          exact HAt.out.step hblk (heapSort_holds swoU dk a' b' hab' (by omega)).1.1 hw1
        · have hl0z : ¬ ((lim : Int) = 0) := by omega
          obtain ⟨s1, B1, hc1, s2, B2, hpv, s3, B3⟩ := rd_facts (limit := lim) (wb := wb) (wp := wp) swoU partialInsertionSort_holds reverseRange_holds (show a' < b' by omega) (show b' ≤ dk.size by omega) HBel.out
          have HB3 := Lib.hid B3
          clear B1 B2 B3
          -- if !wasBalanced: the ways meet
          go_upto_if 35 with fail
          go_cut [3] from 19 to 133 (fun s3 wc => s3 = .int .i64 (rd ltU dk a' b' lim wb wp).lim ∧ Hid (At mU w blk off (rd ltU dk a' b' lim wb wp).d1 wc))
          case first =>
            cases wb
            · have hc := breakU_call blk off cap a' b' dk wr HHk.out hblk' hab' (by omega) (by omega)
              rw [hds] at hc
              have HC := Lib.hid hc
              clear hc
              go_wp2_with fail
              refine HC.out.mono ?_
              rintro e w1 ⟨rfl, hw1⟩
              have HW1 := Lib.hid hw1
              clear hw1
              go_wp2
              go_meet
              case rel =>
                refine ⟨?_, Lib.hid (HAt.out.stepG hblk s1 HW1.out)⟩
                show Value.int .i64 ((lim : Int) - 1) = Value.int .i64 ((lim - 1 : Nat) : Int)
                congr 1
                omega
            · go_wp2_with fail
              go_meet
              case rel => exact ⟨rfl, HAt⟩
          case rest =>
            obtain ⟨rfl, HAt1⟩ := hcut
            have h9 := HAt1.out.holds HH.out (s1.trans hds) hblk
            have HC := Lib.hid (show Calls Tryz.prog 170 #[slU blk off d.size cap, .int .i64 a', .int .i64 b'] wc fun e w' => e = .returned (.tuple #[.int .i64 ((rd ltU dk a' b' lim wb wp).c.1 : Nat), .int .i64 (hintCode (rd ltU dk a' b' lim wb wp).c.2)]) ∧ ∃ n os, w' = Sort.grow (Sort.ahead wc n) os by
              have := pivotU_call blk off cap a' b' (rd ltU dk a' b' lim wb wp).d1 wc h9.1 h9.2 (by omega) (by omega) (by omega)
              rw [s1, hds] at this
              exact this)
            clear h9
            go_upto_if 50 with (go_at_call 170; refine HC.out.mono ?_; rintro e w2 ⟨rfl, hw2⟩)
            have HAt2 := Lib.hid (HAt1.out.same HH.out (s1.trans hds) hblk hw2)
            have h9 := HAt2.out.holds HH.out (s1.trans hds) hblk
            have HH2 := Lib.hid h9.1
            clear h9 hw2 HC
            -- if hint == decreasingHint: the ways meet
            go_cut [11, 12] from 19 to 133 (fun s11 s12 wc => s11 = .int .i64 (rd ltU dk a' b' lim wb wp).pivot ∧ s12 = .int .i64 (hintCode (rd ltU dk a' b' lim wb wp).hint) ∧ Hid (At mU w blk off (rd ltU dk a' b' lim wb wp).d2 wc))
            case first =>
              by_cases hh : (rd ltU dk a' b' lim wb wp).c.2 = .decreasing
              · have hcode : hintCode (rd ltU dk a' b' lim wb wp).c.2 = 2 := by rw [hh]; rfl
                obtain ⟨e2, epv, eht⟩ := rd_dec hh
                have hc := reverseU_call blk off cap a' b' (rd ltU dk a' b' lim wb wp).d1 w2 HH2.out hab' (by omega) (by omega)
                rw [s1, hds] at hc
                have HC := Lib.hid hc
                have E2 := Lib.hid (And.intro e2 (And.intro epv eht))
                clear hc e2 epv eht
                go_wp2_with fail
                refine HC.out.mono ?_
                rintro e w3 ⟨rfl, hw3⟩
                have HW3 := Lib.hid hw3
                clear hw3
                go_wp2
                go_meet
                case rel =>
                  refine ⟨?_, by rw [E2.out.2.2]; rfl, Lib.hid (by rw [E2.out.1]; exact HAt2.out.step hblk (by rw [← E2.out.1, s2, s1]) HW3.out)⟩
                  rw [E2.out.2.1]
                  congr 1
                  omega
              · have hcode : ¬ (hintCode (rd ltU dk a' b' lim wb wp).c.2 = 2) := fun h => hh (hintU_two h)
                obtain ⟨e2, epv, eht⟩ := rd_not hh
                have E2 := Lib.hid (And.intro e2 (And.intro epv eht))
                clear e2 epv eht
                go_wp2_with fail
                go_meet
                case rel => exact ⟨by rw [E2.out.2.1], by rw [E2.out.2.2], Lib.hid (by rw [E2.out.1]; exact HAt2.out)⟩
            case rest =>
              obtain ⟨rfl, rfl, HAt3⟩ := hcut
              have h9 := HAt3.out.holds HH.out (s2.trans hds) hblk
              have HH3 := Lib.hid h9.1
              clear h9
              go_upto_region 15 with fail
              go_cut [12, 68] from 19 to 133 (fun s12 s68 wx => s12 = .int .i64 (hintCode (rd ltU dk a' b' lim wb wp).hint) ∧ s68 = .bool (wb && wp && decide ((rd ltU dk a' b' lim wb wp).hint = .increasing)) ∧ wx = wc)
              case first =>
                cases wb <;> cases wp <;> cases hh3 : (rd ltU dk a' b' lim _ _).hint <;>
                  (have hcode3 := congrArg hintCode hh3
                   simp only [hintCode] at hcode3
                   go_wp2_with fail
                   go_meet
                   exact ⟨by simp [hh3, hintCode], by simp [hh3, hintCode], rfl⟩)
              case rest =>
                obtain ⟨rfl, rfl, rfl⟩ := hcut
                go_upto_if 68 with fail
                go_cut [] from 19 to 133 (fun wx => (rd ltU dk a' b' lim wb wp).pi.2 = false ∧ Hid (At mU w blk off (rd ltU dk a' b' lim wb wp).pi.1 wx))
                case first =>
                  cases h68 : (wb && wp && decide ((rd ltU dk a' b' lim wb wp).hint = .increasing))
                  · have epi := rd_pi_no h68
                    have E1 := Lib.hid epi
                    clear epi
                    go_wp2_with fail
                    go_meet
                    case rel => exact ⟨by rw [E1.out], Lib.hid (by rw [E1.out]; exact HAt3.out)⟩
                  · have epi := rd_pi_yes h68
                    have hc := partialU_call blk off cap a' b' (rd ltU dk a' b' lim wb wp).d2 wc HH3.out (by omega) (by omega) (by omega)
                    rw [s2, hds, ← epi] at hc
                    have HC := Lib.hid hc
                    clear hc epi
                    go_wp2_with fail
                    refine HC.out.mono ?_
                    rintro e w4 ⟨rfl, hw4⟩
                    have HW4 := Lib.hid hw4
                    clear hw4
                    cases hp2 : (rd ltU dk a' b' lim wb wp).pi.2
                    · go_wp2
                      go_meet
                      exact ⟨by first | trivial | exact hp2 | rfl, Lib.hid (HAt3.out.step hblk (by rw [s3, s2]) HW4.out)⟩
                    · go_wp2
                      (try simp only [Exit.inBlock, Exit.then])
                      refine bodyPost_ret (results_none rfl _ _ _) rfl ?_
                      refine ⟨rfl, ?_⟩
                      rw [← A.out, pdq_done h12 hl0 hp2]
                      exact HAt3.out.step hblk (by rw [s3, s2]) HW4.out
                case rest =>
                  obtain ⟨hp2, HAt5⟩ := hcut
                  have h9 := HAt5.out.holds HH.out (s3.trans hds) hblk
                  have hcw : ∀ t, t < d.size → wc.cell? ⟨blk, off + t, none⟩ = some (.int .u64 ((rd ltU dk a' b' lim wb wp).pi.1[t]! : Nat)) := fun t ht => (h9.1 t (by omega)).1
                  have hfw : ∀ t, t < d.size → wc.frozen? ⟨blk, off + t, none⟩ = false := fun t ht => (h9.1 t (by omega)).2
                  have HL := Lib.hid (fun x y w => lessU_any x y w)
                  clear h9
                  go_upto_region 17 with fail
                  go_cut [87] from 19 to 133 (fun s87 wx => s87 = .bool (decide (a' > 0) && !ltU (rd ltU dk a' b' lim wb wp).pi.1[a' - 1]! (rd ltU dk a' b' lim wb wp).pi.1[(rd ltU dk a' b' lim wb wp).pivot]!) ∧ Hid (At mU w blk off (rd ltU dk a' b' lim wb wp).pi.1 wx))
                  case first =>
                    rcases Nat.eq_zero_or_pos a' with ha0 | ha0
                    · have ha0z : decide ((a' : Int) > 0) = false := decide_eq_false (by omega)
                      clear hcw hfw
                      go_quiet (fail)
                      go_wp2_with fail
                      go_meet
                      case rel => exact ⟨by simp [ha0], Lib.hid (HAt5.out.ahead nq)⟩
                    · have ha0z : (a' : Int) > 0 := by omega
                      have m1 : IntKind.i64.wrap ((a' : Int) - 1) = (a' : Int) - 1 := IntWalk.i64_in _ (by omega)
                      have q1 : ((a' : Int) - 1).toNat = a' - 1 := by omega
                      have c0 := hcw (a' - 1) (by omega)
                      have c1 := hcw (rd ltU dk a' b' lim wb wp).pivot (by omega)
                      obtain ⟨L0, hL0⟩ : ∃ z : Bool, z = ltU (rd ltU dk a' b' lim wb wp).pi.1[a' - 1]! (rd ltU dk a' b' lim wb wp).pi.1[(rd ltU dk a' b' lim wb wp).pivot]! := ⟨_, rfl⟩
                      have L1 := Lib.hid (fun w => HL.out (rd ltU dk a' b' lim wb wp).pi.1[a' - 1]! (rd ltU dk a' b' lim wb wp).pi.1[(rd ltU dk a' b' lim wb wp).pivot]! w)
                      unfold mU at L1
                      rw [← hL0] at L1
                      have hpd : (rd ltU dk a' b' lim wb wp).pivot < d.size := by omega
                      have HL0 := Lib.hid hL0
                      clear hcw hfw hL0
                      generalize hy : (rd ltU dk a' b' lim wb wp).pi.1[a' - 1]! = y at c0 L1
                      generalize hx : (rd ltU dk a' b' lim wb wp).pi.1[(rd ltU dk a' b' lim wb wp).pivot]! = x at c1 L1
                      clear hy hx
                      cases hb0 : L0
                      all_goals
                        rw [hb0] at L1
                        go_quiet (first | (go_at_call 173; refine Calls.quiet_of_same (L1.out _)))
                        go_wp2_with fail
                        go_meet
                        case rel => exact ⟨by rw [← HL0.out, hb0]; simp [ha0], Lib.hid (HAt5.out.ahead nq)⟩
                  case rest =>
                    obtain ⟨rfl, HAt6⟩ := hcut
                    have h9 := HAt6.out.holds HH.out (s3.trans hds) hblk
                    have HH6 := Lib.hid h9.1
                    clear hcw hfw h9 HL
                    cases h87 : (decide (a' > 0) && !ltU (rd ltU dk a' b' lim wb wp).pi.1[a' - 1]! (rd ltU dk a' b' lim wb wp).pi.1[(rd ltU dk a' b' lim wb wp).pivot]!)
                    · obtain ⟨mid, ap, d4, hx⟩ : ∃ mid ap d4, partition ltU (rd ltU dk a' b' lim wb wp).pi.1 a' b' (rd ltU dk a' b' lim wb wp).pivot = (mid, ap, d4) := ⟨(partition ltU (rd ltU dk a' b' lim wb wp).pi.1 a' b' (rd ltU dk a' b' lim wb wp).pivot).1, (partition ltU (rd ltU dk a' b' lim wb wp).pi.1 a' b' (rd ltU dk a' b' lim wb wp).pivot).2.1, (partition ltU (rd ltU dk a' b' lim wb wp).pi.1 a' b' (rd ltU dk a' b' lim wb wp).pivot).2.2, rfl⟩
                      obtain ⟨r1, r2, r3, r4, r5, r6, r7⟩ := round_part swoU (partition_holds _) hpv.1 hpv.2 (show b' ≤ (rd ltU dk a' b' lim wb wp).pi.1.size by omega) HB3.out hx
                      have hc := partU_call blk off cap a' b' (rd ltU dk a' b' lim wb wp).pivot (rd ltU dk a' b' lim wb wp).pi.1 wc HH6.out hpv.1 hpv.2 (by omega) (by omega)
                      rw [s3, hds, hx] at hc
                      have HC := Lib.hid hc
                      have X := Lib.hid hx
                      have R4 := Lib.hid r4
                      have R5 := Lib.hid r5
                      have R6 := Lib.hid r6
                      have R7 := Lib.hid r7
                      clear hx hc r4 r5 r6 r7
                      go_upto_if 113 with (go_at_call 175; refine HC.out.mono ?_; rintro e w7 ⟨rfl, hw7⟩)
                      have HAt7 := Lib.hid (HAt6.out.step hblk r3 hw7)
                      have h9 := HAt7.out.holds HH.out (r3.trans (s3.trans hds)) hblk
                      have HH7 := Lib.hid h9.1
                      have hblk7 := h9.2
                      clear h9 hw7 HC
                      by_cases h4 : mid - a' < b' - mid
                      · have h4z : (mid : Int) - (a' : Int) < (b' : Int) - (mid : Int) := by omega
                        have hih := IH.out blk off cap a' mid (rd ltU dk a' b' lim wb wp).lim d4 w7 (by omega) HH7.out hblk7 (by omega) (by omega) (by omega) (Nat.lt_of_le_of_lt (Nat.le_trans rd_lim_le hlim) hlimit) R4.out
                        rw [r3, s3, hds] at hih
                        have HC := Lib.hid hih
                        obtain ⟨pL, sL⟩ := pdq_sorts ltU swoU d4 a' mid (rd ltU dk a' b' lim wb wp).lim true true (by omega) (by omega) R4.out
                        have PL := Lib.hid (And.intro pL sL)
                        clear hih pL sL
                        go_wp2_with fail
                        refine HC.out.mono ?_
                        rintro e w8 ⟨rfl, hw8⟩
                        have HW8 := Lib.hid hw8
                        clear hw8
                        go_wp2
                        go_roundg (b' - (mid + 1))
                        case measure => omega
                        case rel =>
                          refine ⟨mid + 1, b', (rd ltU dk a' b' lim wb wp).lim, decide (mid - a' ≥ (b' - a') / 8), ap, pdq ltU d4 a' mid (rd ltU dk a' b' lim wb wp).lim true true, by simp, rfl, rfl, ?_, rfl, by omega, by omega, Nat.le_refl _, by omega, Nat.le_trans rd_lim_le hlim, by rw [PL.out.1.1, r3, s3, hds], Lib.hid (R6.out _ PL.out.1 PL.out.2).1, Lib.hid (HAt7.out.stepG hblk PL.out.1.1 HW8.out), Lib.hid ?_⟩
                          · exact congrArg Value.bool (eighthU (by omega) (by omega))
                          · rw [← A.out, pdq_left h12 hl0 hp2 h87 (by rw [X.out]; exact ⟨r1, r2⟩) (by rw [X.out]; exact h4), X.out]
                      · have h4z : ¬ ((mid : Int) - (a' : Int) < (b' : Int) - (mid : Int)) := by omega
                        have hih := IH.out blk off cap (mid + 1) b' (rd ltU dk a' b' lim wb wp).lim d4 w7 (by omega) HH7.out hblk7 (by omega) (by omega) (by omega) (Nat.lt_of_le_of_lt (Nat.le_trans rd_lim_le hlim) hlimit) R5.out
                        rw [r3, s3, hds] at hih
                        have HC := Lib.hid hih
                        obtain ⟨pL, sL⟩ := pdq_sorts ltU swoU d4 (mid + 1) b' (rd ltU dk a' b' lim wb wp).lim true true (by omega) (by omega) R5.out
                        have PL := Lib.hid (And.intro pL sL)
                        clear hih pL sL
                        go_wp2_with fail
                        refine HC.out.mono ?_
                        rintro e w8 ⟨rfl, hw8⟩
                        have HW8 := Lib.hid hw8
                        clear hw8
                        go_wp2
                        go_roundg (mid - a')
                        case measure => omega
                        case rel =>
                          refine ⟨a', mid, (rd ltU dk a' b' lim wb wp).lim, decide (b' - mid ≥ (b' - a') / 8), ap, pdq ltU d4 (mid + 1) b' (rd ltU dk a' b' lim wb wp).lim true true, rfl, rfl, rfl, ?_, rfl, by omega, by omega, Nat.le_refl _, by omega, Nat.le_trans rd_lim_le hlim, by rw [PL.out.1.1, r3, s3, hds], Lib.hid (R7.out _ PL.out.1 PL.out.2).1, Lib.hid (HAt7.out.stepG hblk PL.out.1.1 HW8.out), Lib.hid ?_⟩
                          · exact congrArg Value.bool (eighthU (by omega) (by omega))
                          · rw [← A.out, pdq_right h12 hl0 hp2 h87 (by rw [X.out]; exact ⟨r1, r2⟩) (by rw [X.out]; exact h4), X.out]
                    · have h87' := h87
                      simp only [Bool.and_eq_true, decide_eq_true_eq, Bool.not_eq_true'] at h87'
                      obtain ⟨mid, d4, hx⟩ : ∃ mid d4, partitionEqual ltU (rd ltU dk a' b' lim wb wp).pi.1 a' b' (rd ltU dk a' b' lim wb wp).pivot = (mid, d4) := ⟨(partitionEqual ltU (rd ltU dk a' b' lim wb wp).pi.1 a' b' (rd ltU dk a' b' lim wb wp).pivot).1, (partitionEqual ltU (rd ltU dk a' b' lim wb wp).pi.1 a' b' (rd ltU dk a' b' lim wb wp).pivot).2, rfl⟩
                      obtain ⟨r1, r2, r3, r4, _⟩ := round_eq swoU (partitionEqual_holds _) h87'.1 hpv.1 hpv.2 (show b' ≤ (rd ltU dk a' b' lim wb wp).pi.1.size by omega) HB3.out h87'.2 hx
                      have hc := partEqU_call blk off cap a' b' (rd ltU dk a' b' lim wb wp).pivot (rd ltU dk a' b' lim wb wp).pi.1 wc HH6.out hpv.1 hpv.2 (by omega) (by omega)
                      rw [s3, hds, hx] at hc
                      have HC := Lib.hid hc
                      have X := Lib.hid hx
                      have R4 := Lib.hid r4
                      clear hx hc r4
                      go_wp2_with fail
                      refine HC.out.mono ?_
                      rintro e w7 ⟨rfl, hw7⟩
                      have HW7 := Lib.hid hw7
                      clear hw7
                      go_wp2
                      go_roundg (b' - mid)
                      case measure => omega
                      case rel =>
                        exact ⟨mid, b', (rd ltU dk a' b' lim wb wp).lim, wb, wp, d4, rfl, rfl, rfl, rfl, rfl, r2, hb', Nat.le_refl _, by omega, Nat.le_trans rd_lim_le hlim, by rw [r3, s3, hds], R4, Lib.hid (HAt6.out.step hblk r3 HW7.out), Lib.hid (by rw [← A.out, pdq_eq h12 hl0 hp2 h87 (by rw [X.out]; exact ⟨r1, r2⟩), X.out])⟩
end Go.Proofs.YtaehendpdfpibaaGreatDoor
