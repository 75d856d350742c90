/-
  What only reads, two lists: SamePairs, SameInts; PairLess, order.Pair, Has.
-/
import Derived.Test.YtklpemcchfmdjaaDoorFb
namespace Go.Proofs.YtklpemcchfmdjaaDoor
set_option linter.unusedSimpArgs false
set_option linter.unusedVariables false
open Go.RowKit Go.Sort Go.Lib Go.Shelf

set_option maxHeartbeats 1000000 in
/-- SameInts: two lists of numbers. -/
theorem sameInts_call (la lb : List Int) (va vb : Value) (w : World) (ha : Sl encI w va la) (hb : Sl encI w vb lb) : Calls Tryd.prog 24 #[va, vb] w fun e w' => e = .returned (.bool (decide (la = lb))) ∧ Gr w w' := by
  obtain ⟨pa, ca, rfl, ha1, ha2, ha⟩ := ha
  obtain ⟨pb, cb, rfl, hb1, hb2, hb⟩ := hb
  by_cases hl : la.length = lb.length
  · have hbig : la.length ≤ 9223372036854775807 := by unfold maxLen at ha2; omega
    have HA := Lib.hid ha
    have HB := Lib.hid hb
    clear ha hb ha2 hb2
    go_enter Tryd.func24, Tryd.ntmps24
    rw [← hl]
    go_wp2
    go_loopw [13] (fun i wr => ∃ k : Nat, k ≤ la.length ∧ i = .int .i64 k ∧ Gr w wr ∧ la.take k = lb.take k) (fun i _ => la.length - (intOf i).toNat)
    case atStart => exact ⟨0, Nat.zero_le _, rfl, (by repeat (first | with_reducible exact Gr.refl _ | with_reducible assumption | with_reducible apply Gr.alloc | with_reducible apply Gr.drewN | with_reducible apply Gr.drew | with_reducible apply Gr.grow | (with_reducible refine Gr.trans ?_ (by assumption)))), by simp⟩
    case round =>
      obtain ⟨k, hk, rfl, hg, ht⟩ := hrel
      by_cases hkn : k < la.length
      · obtain ⟨g, o, rfl, hg1, hg2⟩ := HA.out (by omega)
        obtain ⟨g', o', rfl, hg3, hg4⟩ := HB.out (by omega)
        have c1 := atI hg2 hkn
        have d1 := atI hg4 (show k < lb.length by omega)
        replace c1 := Bc hg.below hg1 c1
        replace d1 := Bc hg.below hg3 d1
        have hstep := Lib.hid (take_succ_eq la lb k hl hkn ht)
        have HT := Lib.hid ht
        clear ht hg2 hg4
        generalize hx : la[k]! = x at *
        generalize hy : lb[k]! = y at *
        by_cases hxy : x = y
        · have e : decide (x = y) = true := decide_eq_true hxy
          go_wp2_with fail
          go_region
          go_wp2
          go_roundw
          case measure => simp [intOf]; omega
          case rel => exact ⟨k + 1, by omega, by go_num, (by repeat (first | with_reducible exact Gr.refl _ | with_reducible assumption | with_reducible apply Gr.alloc | with_reducible apply Gr.drewN | with_reducible apply Gr.drew | with_reducible apply Gr.grow | (with_reducible refine Gr.trans ?_ (by assumption)))), hstep.out.2 hxy⟩
        · have e : decide (x = y) = false := decide_eq_false hxy
          have hne : decide (la = lb) = false := decide_eq_false fun h => hxy (hstep.out.1 (by rw [h]))
          go_wp2_with fail
          go_region
          go_wp2
          go_ret
          exact ⟨by rw [hne]; rfl, (by repeat (first | with_reducible exact Gr.refl _ | with_reducible assumption | with_reducible apply Gr.alloc | with_reducible apply Gr.drewN | with_reducible apply Gr.drew | with_reducible apply Gr.grow | (with_reducible refine Gr.trans ?_ (by assumption))))⟩
      · have hkn' : k = la.length := by omega
        have he : la = lb := by
          have := ht
          rwa [hkn', List.take_length, hl, List.take_length] at this
        go_wp2
        go_ret
        exact ⟨by rw [decide_eq_true he]; rfl, (by repeat (first | with_reducible exact Gr.refl _ | with_reducible assumption | with_reducible apply Gr.alloc | with_reducible apply Gr.drewN | with_reducible apply Gr.drew | with_reducible apply Gr.grow | (with_reducible refine Gr.trans ?_ (by assumption))))⟩
  · have hne : decide (la = lb) = false := decide_eq_false fun h => hl (by rw [h])
    have hz : ((la.length : Int) == (lb.length : Int)) = false := by simp; omega
    clear ha hb
    go_enter Tryd.func24, Tryd.ntmps24
    go_wp2
    go_ret
    exact ⟨by rw [hne]; rfl, (by repeat (first | with_reducible exact Gr.refl _ | with_reducible assumption | with_reducible apply Gr.alloc | with_reducible apply Gr.drewN | with_reducible apply Gr.drew | with_reducible apply Gr.grow | (with_reducible refine Gr.trans ?_ (by assumption))))⟩

theorem and_ne {a b c d : Int} (h : ¬ ((a, b) : Hd) = (c, d)) : (decide (a = c) && decide (b = d)) = false := by
  rw [← Bool.decide_and]
  exact decide_eq_false fun e => h (by rw [e.1, e.2])

end Go.Proofs.YtklpemcchfmdjaaDoor
