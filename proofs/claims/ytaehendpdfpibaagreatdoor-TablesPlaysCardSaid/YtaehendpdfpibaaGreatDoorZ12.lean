import Derived.Test.YtaehendpdfpibaaGreatDoorZ7
import Derived.Test.YtaehendpdfpibaaGreatDoorZ4
import Derived.Test.YtaehendpdfpibaaGreatDoorZ11
import Derived.Laws.StructEq
import Derived.Shelf.SlSortCmp.QuietGrown
import Derived.Deep.LoopGhost
import Derived.Lib.SlicesCompact
import Derived.Lib.SliceRun
import Derived.Sort.WalkB12
import Derived.Shelf.RegionOpenPlain

/-
  Handles in order, each once: order.Handles; the reference's Less, PutHandle, Handles, Same (stage 2's texts over stage 7's).
-/
namespace Go.Proofs.YtaehendpdfpibaaGreatDoor
set_option linter.unusedSimpArgs false
set_option linter.unusedVariables false
open Go.RowKit Go.Sort Go.Lib Go.Shelf

set_option maxHeartbeats 1000000 in
theorem compare_any (x y : Int) (w : World) : Calls Tryz.prog 148 #[.int .i64 x, .int .i64 y] w fun e w' => e = .returned (.int .i64 (Lib.compareInt x y)) ∧ w' = w := by
  go_enter Tryz.func148, Tryz.ntmps148
  go_wp2_with (go_at_call 164; refine (isNaN_any _ _).mono ?_; rintro e w' ⟨rfl, hw⟩; rw [hw])
  all_goals (go_ret; refine ⟨?_, rfl⟩; unfold Lib.compareInt; (repeat' split) <;> first | rfl | (exfalso; omega))


set_option maxHeartbeats 1000000 in
theorem or_any (x y : Int) (b : Nat) (w : World) (hx : w.cell? ⟨b, 0, none⟩ = some (.int .i64 x)) (hy : w.cell? ⟨b, 1, none⟩ = some (.int .i64 y)) : Calls Tryz.prog 147 #[.slice (some ⟨b, 0, none⟩) 2 2] w fun e w' => e = .returned (.int .i64 (orI x y)) ∧ w' = w := by
  go_enter Tryz.func147, Tryz.ntmps147
  go_wp2
  go_loopw [8] (fun i wr => wr = w ∧ (i = .int .i64 0 ∨ (i = .int .i64 1 ∧ x = 0) ∨ (i = .int .i64 2 ∧ x = 0 ∧ y = 0))) (fun i _ => 2 - (intOf i).toNat)
  case atStart => exact ⟨by trivial, .inl rfl⟩
  case round =>
    obtain ⟨rfl, rfl | ⟨rfl, h0⟩ | ⟨rfl, h0, h1⟩⟩ := hrel
    · by_cases h : x = 0
      · go_wp2
        go_roundw
        case measure => simp [intOf]
        case rel => exact ⟨by trivial, .inr (.inl ⟨by go_num, h⟩)⟩
      · go_wp2
        go_ret
        exact ⟨by simp [orI, h], rfl⟩
    · by_cases h : y = 0
      · go_wp2
        go_roundw
        case measure => simp [intOf]
        case rel => exact ⟨by trivial, .inr (.inr ⟨by go_num, h0, h⟩)⟩
      · go_wp2
        go_ret
        exact ⟨by simp [orI, h0], rfl⟩
    · go_wp2
      go_ret
      exact ⟨by simp [orI, h0, h1], rfl⟩


/-- The slice of two that a call of cmp.Or has just built. -/
theorem or_new (x y : Int) (b : Nat) (w : World) (t : TypeId) (hb : b = w.heap.size) : Calls Tryz.prog 147 #[.slice (some ⟨b, 0, none⟩) 2 2] (w.alloc (.cells #[.int .i64 x, .int .i64 y] t)).drew fun e w' => e = .returned (.int .i64 (orI x y)) ∧ w' = (w.alloc (.cells #[.int .i64 x, .int .i64 y] t)).drew := by
  subst hb
  exact or_any x y _ _ (by simp) (by simp)


set_option maxHeartbeats 400000 in
set_option maxRecDepth 100000 in
/-- order.compare: by Index, and of one Index by Gen. -/
theorem cmpH_any (x y : Hd) (w : World) : Calls Tryz.prog 107 #[.agg #[.int .i64 x.1, .int .i64 x.2], .agg #[.int .i64 y.1, .int .i64 y.2]] w fun e w' => e = .returned (.int .i64 (cmpH x y)) ∧ Gr w w' := by
  obtain ⟨x1, x2⟩ := x
  obtain ⟨y1, y2⟩ := y
  unfold cmpH
  dsimp only
  go_enter Tryz.func107, Tryz.ntmps107
  go_wp2_with fail
  go_region_held3 (fun w' => Gr ((w.alloc (.cells #[.int .i64 x1, .int .i64 x2] 31)).alloc (.cells #[.int .i64 y1, .int .i64 y2] 31)) w' ∧ ∀ b_1 o, b_1 < ((w.alloc (.cells #[.int .i64 x1, .int .i64 x2] 31)).alloc (.cells #[.int .i64 y1, .int .i64 y2] 31)).heap.size → w'.cell? ⟨b_1, o, none⟩ = ((w.alloc (.cells #[.int .i64 x1, .int .i64 x2] 31)).alloc (.cells #[.int .i64 y1, .int .i64 y2] 31)).cell? ⟨b_1, o, none⟩) (first | exact gkeep0 _ | exact gkeepG (by assumption) hg1 | exact gkeepA (by assumption) _ | assumption)
    (first
      | (go_at_call 148; refine (compare_any _ _ _).mono ?_; rintro e w1 ⟨rfl, rfl⟩)
      | (go_at_call 147; refine (or_new (Lib.compareInt x1 y1) (Lib.compareInt x2 y2) _ _ _ (by simp)).mono ?_; rintro e w1 ⟨rfl, rfl⟩))
  go_wp2
  go_ret
  exact ⟨rfl, (by repeat (first | with_reducible exact Gr.refl _ | with_reducible assumption | with_reducible apply Gr.alloc | with_reducible apply Gr.drewN | with_reducible apply Gr.drew | with_reducible apply Gr.grow | (with_reducible refine Gr.trans ?_ (by assumption))))⟩

theorem cmpH_call (a b c d : Int) (w : World) : Calls Tryz.prog 107 #[.agg #[.int .i64 a, .int .i64 b], .agg #[.int .i64 c, .int .i64 d]] w fun e w' => e = .returned (.int .i64 (cmpH (a, b) (c, d))) ∧ Gr w w' := cmpH_any (a, b) (c, d) w


theorem or_new0 (x y : Int) (b : Nat) (w : World) (t : TypeId) (hb : b = w.heap.size) : Calls Tryz.prog 147 #[.slice (some ⟨b, 0, none⟩) 2 2] (w.alloc (.cells #[.int .i64 x, .int .i64 y] t)) fun e w' => e = .returned (.int .i64 (orI x y)) ∧ w' = w.alloc (.cells #[.int .i64 x, .int .i64 y] t) := by
  subst hb
  exact or_any x y _ _ (by simp) (by simp)


set_option maxHeartbeats 400000 in
/-- The reference's Less. -/
theorem rless_call (a b c d : Int) (w : World) : Calls Tryz.prog 111 #[.agg #[.int .i64 a, .int .i64 b], .agg #[.int .i64 c, .int .i64 d]] w fun e w' => e = .returned (.bool (ltH (a, b) (c, d))) ∧ Gr w w' := by
  by_cases h1 : a < c
  · have e : ltH (a, b) (c, d) = true := by simp [ltH_eq, h1]
    rw [e]
    go_enter Tryz.func111, Tryz.ntmps111
    go_wp2
    go_ret
    exact ⟨rfl, (by repeat (first | with_reducible exact Gr.refl _ | with_reducible assumption | with_reducible apply Gr.alloc | with_reducible apply Gr.drewN | with_reducible apply Gr.drew | with_reducible apply Gr.grow | (with_reducible refine Gr.trans ?_ (by assumption))))⟩
  · by_cases h2 : a = c
    · have e : ltH (a, b) (c, d) = decide (b < d) := by simp [ltH_eq, h2]
      rw [e]
      subst h2
      go_enter Tryz.func111, Tryz.ntmps111
      go_wp2
      go_ret
      exact ⟨by simp, (by repeat (first | with_reducible exact Gr.refl _ | with_reducible assumption | with_reducible apply Gr.alloc | with_reducible apply Gr.drewN | with_reducible apply Gr.drew | with_reducible apply Gr.grow | (with_reducible refine Gr.trans ?_ (by assumption))))⟩
    · have e : ltH (a, b) (c, d) = false := by simp [ltH_eq, h1, h2]
      rw [e]
      go_enter Tryz.func111, Tryz.ntmps111
      go_wp2
      go_ret
      exact ⟨rfl, (by repeat (first | with_reducible exact Gr.refl _ | with_reducible assumption | with_reducible apply Gr.alloc | with_reducible apply Gr.drewN | with_reducible apply Gr.drew | with_reducible apply Gr.grow | (with_reducible refine Gr.trans ?_ (by assumption))))⟩

set_option maxHeartbeats 1000000 in
/-- The reference's Same: two lists of handles. -/
theorem sameH_call (la lb : List Hd) (va vb : Value) (w : World) (ha : Sl encH w va la) (hb : Sl encH w vb lb) : Calls Tryz.prog 33 #[va, vb] w fun e w' => e = .returned (.bool (decide (la = lb))) ∧ Gr w w' := by
  obtain ⟨pa, ca, rfl, ha1, ha2, ha⟩ := ha
  obtain ⟨pb, cb, rfl, hb1, hb2, hb⟩ := hb
  have eq1 := eqH_run
  have ne1 := neH_run
  have gd1 := gdH_run
  by_cases hl : la.length = lb.length
  · have hbig : la.length ≤ 9223372036854775807 := by unfold maxLen at ha2; omega
    have HA := Lib.hid ha
    have HB := Lib.hid hb
    clear ha hb ha2 hb2
    go_enter Tryz.func33, Tryz.ntmps33
    rw [← hl]
    go_wp2
    go_loopw [13] (fun i wr => ∃ k : Nat, k ≤ la.length ∧ i = .int .i64 k ∧ Gr w wr ∧ la.take k = lb.take k) (fun i _ => la.length - (intOf i).toNat)
    case atStart => exact ⟨0, Nat.zero_le _, rfl, (by repeat (first | with_reducible exact Gr.refl _ | with_reducible assumption | with_reducible apply Gr.alloc | with_reducible apply Gr.drewN | with_reducible apply Gr.drew | with_reducible apply Gr.grow | (with_reducible refine Gr.trans ?_ (by assumption)))), by simp⟩
    case round =>
      obtain ⟨k, hk, rfl, hg, ht⟩ := hrel
      by_cases hkn : k < la.length
      · obtain ⟨g, o, rfl, hg1, hg2⟩ := HA.out (by omega)
        obtain ⟨g', o', rfl, hg3, hg4⟩ := HB.out (by omega)
        obtain ⟨c1, c2⟩ := atH hg2 hkn
        obtain ⟨d1, d2⟩ := atH hg4 (show k < lb.length by omega)
        replace c1 := Bc hg.below hg1 c1
        replace c2 := Bc hg.below hg1 c2
        replace d1 := Bc hg.below hg3 d1
        replace d2 := Bc hg.below hg3 d2
        have hstep := Lib.hid (take_succ_eq la lb k hl hkn ht)
        have HT := Lib.hid ht
        clear ht hg2 hg4
        generalize hx : la[k]! = x at *
        generalize hy : lb[k]! = y at *
        obtain ⟨x1, x2⟩ := x
        obtain ⟨y1, y2⟩ := y
        dsimp only at c1 c2 d1 d2
        by_cases hxy : ((x1, x2) : Hd) = (y1, y2)
        · have e : decide (((x1, x2) : Hd) = (y1, y2)) = true := decide_eq_true hxy
          go_wp2_with fail
          go_region
          go_wp2
          go_roundw
          case measure => simp [intOf]; omega
          case rel => exact ⟨k + 1, by omega, by go_num, (by repeat (first | with_reducible exact Gr.refl _ | with_reducible assumption | with_reducible apply Gr.alloc | with_reducible apply Gr.drewN | with_reducible apply Gr.drew | with_reducible apply Gr.grow | (with_reducible refine Gr.trans ?_ (by assumption)))), hstep.out.2 hxy⟩
        · have e : decide (((x1, x2) : Hd) = (y1, y2)) = false := decide_eq_false hxy
          have hne : decide (la = lb) = false := decide_eq_false fun h => hxy (hstep.out.1 (by rw [h]))
          go_wp2_with fail
          go_region
          go_wp2
          go_ret
          exact ⟨by rw [hne]; rfl, (by repeat (first | with_reducible exact Gr.refl _ | with_reducible assumption | with_reducible apply Gr.alloc | with_reducible apply Gr.drewN | with_reducible apply Gr.drew | with_reducible apply Gr.grow | (with_reducible refine Gr.trans ?_ (by assumption))))⟩
      · have hkn' : k = la.length := by omega
        have he : la = lb := by
          have := ht
          rwa [hkn', List.take_length, hl, List.take_length] at this
        go_wp2
        go_ret
        exact ⟨by rw [decide_eq_true he]; rfl, (by repeat (first | with_reducible exact Gr.refl _ | with_reducible assumption | with_reducible apply Gr.alloc | with_reducible apply Gr.drewN | with_reducible apply Gr.drew | with_reducible apply Gr.grow | (with_reducible refine Gr.trans ?_ (by assumption))))⟩
  · have hne : decide (la = lb) = false := decide_eq_false fun h => hl (by rw [h])
    have hz : ((la.length : Int) == (lb.length : Int)) = false := by simp; omega
    clear ha hb
    go_enter Tryz.func33, Tryz.ntmps33
    go_wp2
    go_ret
    exact ⟨by rw [hne]; rfl, (by repeat (first | with_reducible exact Gr.refl _ | with_reducible assumption | with_reducible apply Gr.alloc | with_reducible apply Gr.drewN | with_reducible apply Gr.drew | with_reducible apply Gr.grow | (with_reducible refine Gr.trans ?_ (by assumption))))⟩

theorem rless_is {a b c d : Int} {v : Bool} (h : ltH (a, b) (c, d) = v) (w : World) : Calls Tryz.prog 111 #[.agg #[.int .i64 a, .int .i64 b], .agg #[.int .i64 c, .int .i64 d]] w fun e w' => e = .returned (.bool v) ∧ Gr w w' := by
  subst h
  exact rless_call a b c d w


theorem and_ne {a b c d : Int} (h : ¬ ((a, b) : Hd) = (c, d)) : (decide (a = c) && decide (b = d)) = false := by
  rw [← Bool.decide_and]
  exact decide_eq_false fun e => h (by rw [e.1, e.2])


theorem ne_and {a b c d : Int} (h : ¬ ((a, b) : Hd) = (c, d)) : (decide (a = c) && decide (b = d)) = false := by
  rw [← Bool.decide_and]
  exact decide_eq_false fun e => h (by rw [e.1, e.2])


/-- Two cells at a handle's place, stored: the row with it. -/
theorem set2 {w : World} {b off : Nat} {d : Array Hd} (h : HoldsK encH 2 w b off d) {i : Nat} (hi : i < d.size) (x : Hd) : HoldsK encH 2 ((w.setCell ⟨b, off + i * 2, none⟩ (.int .i64 x.1)).setCell ⟨b, off + i * 2 + 1, none⟩ (.int .i64 x.2)) b off (d.setIfInBounds i x) :=
  hkSet h lenH hi x

theorem at2 {w : World} {b off : Nat} {d : Array Hd} (h : HoldsK encH 2 w b off d) {i : Nat} (hi : i < d.size) :
    (w.cell? ⟨b, off + i * 2, none⟩ = some (.int .i64 d[i]!.1) ∧ w.cell? ⟨b, off + i * 2 + 1, none⟩ = some (.int .i64 d[i]!.2)) ∧ w.frozen? ⟨b, off + i * 2, none⟩ = false ∧ w.frozen? ⟨b, off + i * 2 + 1, none⟩ = false := by
  have c0 := Go.Sort.HoldsK.cell h hi (show 0 < 2 by omega)
  have c1 := Go.Sort.HoldsK.cell h hi (show 1 < 2 by omega)
  exact ⟨⟨c0.1, c1.1⟩, c0.2, c1.2⟩


set_option maxHeartbeats 4000000 in
set_option maxRecDepth 1000000 in
theorem compactH_call (B blk cap : Nat) (d : Array Hd) (w : World) (hH : HoldsK encH 2 w blk 0 d) (hB : B ≤ blk) (hsz : d.size ≤ 1000000) (hcap : d.size ≤ cap) (hcm : cap ≤ 9223372036854775807) :
    Calls Tryz.prog 146 #[.slice (some ⟨blk, 0, none⟩) d.size cap] w fun e w' => e = .returned (.slice (some ⟨blk, 0, none⟩) (compactUpTo d d.size).length cap) ∧
      (∃ d' : Array Hd, d'.size = d.size ∧ (∀ j, j < (compactUpTo d d.size).length → (compactUpTo d d.size)[j]? = some d'[j]!) ∧ HoldsK encH 2 w' blk 0 d') ∧ RowKit.Below B w w' := by
  have eq1 := eqH_run
  have ne1 := neH_run
  have gd1 := gdH_run
  have same : ∀ w', HoldsK encH 2 w' blk 0 d → (∀ j, j < d.size → keeps d j = true) → (compactUpTo d d.size).length = d.size ∧ (∃ d' : Array Hd, d'.size = d.size ∧ (∀ j, j < (compactUpTo d d.size).length → (compactUpTo d d.size)[j]? = some d'[j]!) ∧ HoldsK encH 2 w' blk 0 d') := by
    intro w' hw hall
    have e : compactUpTo d d.size = d.toList := by rw [compactUpTo_all d _ hall, range_map_get]
    rw [e]
    refine ⟨by simp, d, rfl, fun j hj => ?_, hw⟩
    have hj' : j < d.size := by simpa using hj
    rw [getElem!_pos d j hj']
    simp [hj']
  have HS := Lib.hid same
  clear same
  by_cases h2 : d.size < 2
  · have HH := Lib.hid hH
    clear hH
    go_enter Tryz.func146, Tryz.ntmps146
    go_wp2
    go_ret
    obtain ⟨e1, e2⟩ := HS.out w HH.out (fun j hj => keeps_lt_one d j (by omega))
    exact ⟨by rw [e1]; rfl, e2, Below.refl _ _⟩
  · go_enter Tryz.func146, Tryz.ntmps146
    go_wp2
    go_loopg [3] d.size (fun g s3 wr => ∃ k : Nat, 1 ≤ k ∧ k ≤ d.size ∧ d.size - k ≤ g ∧ s3 = .int .i64 k ∧ RowKit.Below B w wr ∧ HoldsK encH 2 wr blk 0 d ∧ ∀ j, j < k → keeps d j = true)
    case atStart => exact ⟨1, Nat.le_refl _, by omega, by omega, rfl, Below.refl _ _, hH, keeps_lt_one d⟩
    case round =>
      obtain ⟨k, hk1, hk, hg, rfl, hb, hHw, hall⟩ := hrel
      by_cases hlt : k < d.size
      · obtain ⟨⟨c1, c2⟩, f1, f2⟩ := at2 hHw hlt
        obtain ⟨⟨c3, c4⟩, f3, f4⟩ := at2 hHw (show k - 1 < d.size by omega)
        simp only [Nat.zero_add] at c1 c2 c3 c4 f1 f2 f3 f4
        have A := Lib.hid hall
        have HW := Lib.hid hHw
        have HB := Lib.hid hb
        clear hall hH hHw hb
        generalize hx : d[k]! = x at c1 c2
        generalize hy : d[k - 1]! = y at c3 c4
        obtain ⟨x1, x2⟩ := x
        obtain ⟨y1, y2⟩ := y
        dsimp only at c1 c2 c3 c4
        have EX := Lib.hid hx
        have EY := Lib.hid hy
        clear hx hy
        by_cases hdup : ((x1, x2) : Hd) = (y1, y2)
        · obtain ⟨rfl, rfl⟩ : x1 = y1 ∧ x2 = y2 := by simpa using hdup
          clear hdup
          go_wp2_with fail
          go_region
          go_wp2
          clear c1 c2 c3 c4 f1 f2 f3 f4
          go_loopg [3, 5] d.size (fun g s3 s5 wr => ∃ (kk k2 : Nat) (dk : Array Hd), s3 = .int .i64 kk ∧ s5 = .int .i64 k2 ∧ 1 ≤ k2 ∧ k + k2 ≤ d.size ∧ d.size - (k + k2) ≤ g ∧ RowKit.Below B w wr ∧ HoldsK encH 2 wr blk 0 dk ∧ CompInv d (k + k2) kk dk)
          case atStart => exact ⟨k, 1, d, rfl, rfl, Nat.le_refl _, by omega, by omega, HB.out.drew, HW.out, CompInv.start A.out (keeps_neg (by omega) (by rw [EX.out, EY.out]))⟩
          case round =>
            obtain ⟨kk, k2, dk, rfl, rfl, h1, hle, hg2, hb, hHk, hI⟩ := hrel
            have hkk := hI.lt
            have hds := hI.size
            have HB := Lib.hid hb
            by_cases hlt2 : k + k2 < d.size
            · obtain ⟨⟨c1, c2⟩, _, _⟩ := at2 hHk (show k + k2 < dk.size by omega)
              obtain ⟨⟨c3, c4⟩, _, _⟩ := at2 hHk (show k + k2 - 1 < dk.size by omega)
              obtain ⟨⟨c5, c6⟩, f5, f6⟩ := at2 hHk (show kk < dk.size by omega)
              rw [hI.high (k + k2) (by omega)] at c1 c2
              rw [hI.high (k + k2 - 1) (by omega)] at c3 c4
              rw [show 0 + (k + k2) * 2 = k * 2 + k2 * 2 by omega] at c1 c2
              rw [show 0 + (k + k2 - 1) * 2 = k * 2 + (k2 - 1) * 2 by omega] at c3 c4
              simp only [Nat.zero_add] at c5 c6 f5 f6
              have HK := Lib.hid hHk
              have HI := Lib.hid hI
              clear hHk hI hb
              generalize hu : d[k + k2]! = u at c1 c2
              generalize hv : d[k + k2 - 1]! = v at c3 c4
              generalize ho : dk[kk]! = old at c5 c6
              obtain ⟨u1, u2⟩ := u
              obtain ⟨v1, v2⟩ := v
              obtain ⟨o1, o2⟩ := old
              dsimp only at c1 c2 c3 c4 c5 c6
              have EU := Lib.hid hu
              have EV := Lib.hid hv
              clear hu hv ho
              by_cases huv : ((u1, u2) : Hd) = (v1, v2)
              · obtain ⟨rfl, rfl⟩ : u1 = v1 ∧ u2 = v2 := by simpa using huv
                clear huv
                go_wp2_with fail
                go_region
                go_wp2
                go_roundg (d.size - (k + (k2 + 1)))
                case measure => omega
                case rel => exact ⟨kk, k2 + 1, dk, rfl, by go_num, by omega, by omega, Nat.le_refl _, HB.out.drew, hkDrew HK.out, HI.out.skip (keeps_neg (by omega) (by rw [EU.out, EV.out]))⟩
              · have e5 := ne_and huv
                have HN := Lib.hid huv
                clear huv
                go_wp2_with fail
                go_region
                go_wp2
                go_roundg (d.size - (k + (k2 + 1)))
                case measure => omega
                case rel =>
                  refine ⟨kk + 1, k2 + 1, dk.setIfInBounds kk (u1, u2), by go_num, by go_num, by omega, by omega, Nat.le_refl _, ((HB.out.drew).setCell (p := ⟨blk, kk * 2, none⟩) hB _).setCell (p := ⟨blk, kk * 2 + 1, none⟩) hB _, ?_, ?_⟩
                  · have := set2 (hkDrew HK.out) (show kk < dk.size by omega) (u1, u2)
                    simp only [Nat.zero_add] at this
                    exact this
                  · have := HI.out.keep hlt2 (keeps_pos (by rw [EU.out, EV.out]; exact HN.out))
                    rwa [EU.out] at this
            · have hend : k + k2 = d.size := by omega
              have hkk2 : kk < dk.size := by omega
              have hcl : ∀ ty, (Builtin.clear_ #[64] ty #[.slice (some ⟨blk, kk * 2, none⟩) (d.size - kk) (cap - kk)]).run Tryz.prog wr = .ok (.tuple #[]) (wr.setCells blk (kk * 2) (flat encH (List.replicate (d.size - kk) (0, 0)))) := fun ty => by
                have := clear_run lenH (by omega) oneH Tryz.prog (0, 0) Tryz.underlying64 Tryz.zeroValue31 rfl hHk kk hkk2 (cap - kk) ty
                rwa [Nat.zero_add, hds] at this
              have hI2 := hI
              rw [hend] at hI2
              obtain ⟨d', hs', hlow, hH'⟩ := HoldsK.lay lenH hHk (0, 0) (d.size - kk) kk (by omega)
              rw [Nat.zero_add] at hH'
              have E := Lib.hid hI2
              have L := Lib.hid hlow
              have HH' := Lib.hid hH'
              clear hHk hI hI2 hlow hH' hb hend
              go_wp2
              go_ret
              refine ⟨by rw [E.out.len]; rfl, ⟨d', by rw [hs', hds], fun j hj => ?_, HH'.out⟩, Below.setCells HB.out hB _ _⟩
              rw [E.out.len] at hj
              rw [E.out.low j hj, L.out j hj]
        · have e5 := ne_and hdup
          have HN := Lib.hid hdup
          clear hdup
          go_wp2_with fail
          go_region
          go_wp2
          go_roundg (d.size - (k + 1))
          case measure => omega
          case rel =>
            refine ⟨k + 1, by omega, by omega, Nat.le_refl _, by go_num, HB.out.drew, hkDrew HW.out, fun j hj => ?_⟩
            by_cases e : j = k
            · subst e
              exact keeps_pos (by rw [EX.out, EY.out]; exact HN.out)
            · exact A.out j (by omega)
      · have hkd : k = d.size := by omega
        have HW := Lib.hid hHw
        have HB := Lib.hid hb
        obtain ⟨e1, e2⟩ := HS.out wr hHw (fun j hj => hall j (by omega))
        have E1 := Lib.hid e1
        have E2 := Lib.hid e2
        clear hH hHw hb hall e1 e2 hkd
        go_wp2
        go_ret
        exact ⟨by rw [E1.out]; rfl, E2.out, HB.out⟩

theorem swo_of_sto {α : Type} {lt : α → α → Bool} (h : STO lt) : SWO lt where
  irrefl := h.irrefl
  trans := h.trans
  ntrans x y z h1 h2 := by
    cases e : lt x z with
    | false => rfl
    | true =>
      cases e2 : lt y x with
      | true => have := h.trans _ _ _ e2 e; rw [h2] at this; cases this
      | false => have := h.total _ _ h1 e2; subst this; rw [h2] at e; cases e


/-- A sorted permutation, of runs of equal ones one each: rising, each once. -/
theorem compact_srt {α : Type} [Inhabited α] [DecidableEq α] {lt : α → α → Bool} (h : STO lt) {l : List α} {d d' : Array α} (hd : d = l.toArray) (hp : PermIn 0 d.size d d') (hs : SortedIn lt 0 d.size d') : compactUpTo d' d'.size = srt lt l := by
  obtain ⟨hsz, _, hperm⟩ := hp
  have e1 : d'.extract 0 d.size = d' := by rw [← hsz]; exact Array.extract_size
  have e2 : d.extract 0 d.size = d := Array.extract_size
  rw [e1, e2, hd] at hperm
  have hmem : ∀ z, z ∈ l ↔ ∃ i, i < d'.size ∧ d'[i]! = z := fun z => by
    have := hperm.mem_iff (a := z)
    simp only [List.toList_toArray] at this
    rw [← this]
    constructor
    · intro hz
      obtain ⟨i, hi, e⟩ := List.getElem_of_mem hz
      have hi' : i < d'.size := by simpa using hi
      exact ⟨i, hi', by rw [getElem!_pos d' i hi']; simpa using e⟩
    · rintro ⟨i, hi, e⟩
      rw [getElem!_pos d' i hi] at e
      rw [← e]
      simp
  have key : ∀ m, m ≤ d'.size → Rise lt (compactUpTo d' m) ∧ ∀ z, z ∈ compactUpTo d' m ↔ ∃ i, i < m ∧ d'[i]! = z := by
    intro m
    induction m with
    | zero => intro _; exact ⟨by simp [compactUpTo, Rise], fun z => by simp [compactUpTo]⟩
    | succ m ih =>
      intro hm
      obtain ⟨ih1, ih2⟩ := ih (by omega)
      rw [compactUpTo_succ]
      cases hk : keeps d' m with
      | true =>
        simp only [if_true]
        refine ⟨List.pairwise_append.2 ⟨ih1, by simp, fun x hx y hy => ?_⟩, fun z => ?_⟩
        · simp only [List.mem_singleton] at hy
          subst hy
          obtain ⟨i, hi, rfl⟩ := (ih2 x).1 hx
          have hnl : lt d'[m]! d'[i]! = false := hs i m (Nat.zero_le _) hi (by omega)
          cases e : lt d'[i]! d'[m]! with
          | true => rfl
          | false =>
            have eq := h.total _ _ e hnl
            have hm0 : ¬ m = 0 := by omega
            have hkeep : d'[m]! ≠ d'[m - 1]! := by
              unfold keeps at hk
              simpa [hm0] using hk
            have hb : lt d'[m]! d'[m - 1]! = false := hs (m - 1) m (Nat.zero_le _) (by omega) (by omega)
            have ha : lt d'[m - 1]! d'[m]! = false := by
              rw [← eq]
              by_cases him : i = m - 1
              · rw [him]; exact h.irrefl _
              · exact hs i (m - 1) (Nat.zero_le _) (by omega) (by omega)
            exact absurd (h.total _ _ hb ha) hkeep
        · rw [List.mem_append, ih2 z]
          simp only [List.mem_singleton]
          constructor
          · rintro (⟨i, hi, e⟩ | e)
            · exact ⟨i, by omega, e⟩
            · exact ⟨m, by omega, e.symm⟩
          · rintro ⟨i, hi, e⟩
            by_cases him : i = m
            · subst him; exact .inr e.symm
            · exact .inl ⟨i, by omega, e⟩
      | false =>
        simp only [Bool.false_eq_true, if_false, List.append_nil]
        refine ⟨ih1, fun z => ?_⟩
        rw [ih2 z]
        have hm0 : m ≠ 0 ∧ d'[m]! = d'[m - 1]! := by
          unfold keeps at hk
          simpa using hk
        constructor
        · rintro ⟨i, hi, e⟩
          exact ⟨i, by omega, e⟩
        · rintro ⟨i, hi, e⟩
          by_cases him : i = m
          · subst him; exact ⟨i - 1, by omega, by rw [← hm0.2]; exact e⟩
          · exact ⟨i, by omega, e⟩
  obtain ⟨k1, k2⟩ := key d'.size (Nat.le_refl _)
  exact (srt_eq h k1 fun z => by rw [k2 z, hmem z]).symm


theorem swoH : SWO (ltOf cmpH) := by
  have e : ltOf cmpH = ltH := funext fun x => funext fun y => cmpH_lt x y
  rw [e]
  exact swo_of_sto sto_hd


set_option maxHeartbeats 1000000 in
set_option maxRecDepth 100000 in
/-- slices.SortFunc. -/
theorem sortH_call (base : Nat) (l : List Hd) (v : Value) (w : World) (hl : Own base encH 2 w v l) (hb : base ≤ w.heap.size) (hlen : l.length ≤ 100000) :
    Calls Tryz.prog 145 #[v, .func (.func 107) #[] #[]] w fun e w' => e = .returned (.tuple #[]) ∧ (∃ d' : Array Hd, PermIn 0 l.toArray.size l.toArray d' ∧ SortedIn ltH 0 l.toArray.size d' ∧ Own base encH 2 w' v d'.toList) ∧ RowKit.Below base w w' := by
  obtain ⟨p, cap, rfl, h1, h2, h⟩ := hl
  by_cases h0 : l.length = 0
  · have hl0 : l = [] := List.length_eq_zero_iff.1 h0
    subst hl0
    have hcon := AnyF.slices_SortFunc_none (P := Tryz.prog) (ρ := Tryz.sortH_ren) { Tryz.sortH with } p cap (.func (.func 107) #[] #[]) w
    refine hcon.mono ?_
    rintro e w' ⟨rfl, rfl⟩
    exact ⟨rfl, ⟨#[], ⟨rfl, fun i _ => rfl, by simp⟩, fun i j _ _ hj => absurd hj (by simp), ⟨p, cap, rfl, h1, h2, fun h => absurd h (by simp)⟩⟩, Below.refl _ _⟩
  · obtain ⟨g, rfl, hbg, hgl, hH⟩ := h (by omega)
    have eg : ∀ args w, (callFunc 107 args).run Tryz.prog w = .ok (.enter 107 args) w := enters_of Tryz.func107 (by kernel_rfl) rfl
    have hcon := AnyQ.slices_SortFunc Tryz.sortH 2 Tryz.isAgg31 Tryz.sizeOf31 encH lenH oneH cmpH swoH 107 #[] g 0 cap l.toArray w eg (fun m os dk _ x y => cmpH_any x y _) hH hgl (by simp; omega)
    have e2 : ltOf cmpH = ltH := funext fun x => funext fun y => cmpH_lt x y
    rw [e2] at hcon
    refine hcon.mono ?_
    rintro e w' ⟨rfl, d', n, os, hp, hs, rfl⟩
    have hds : d'.size = l.length := by rw [hp.1]; simp
    have hdl : d'.toList.length = l.length := by rw [Array.length_toList, hds]
    refine ⟨rfl, ⟨d', hp, hs, ⟨_, cap, by rw [hdl], by rw [hdl]; exact h1, h2, fun _ => ⟨g, rfl, hbg, ?_, ?_⟩⟩⟩, below_sortWorldK hbg hb⟩
    · exact Nat.lt_of_lt_of_le hgl (size_sortWorldK_c encH 2 w g 0 n d' os)
    · rw [Array.toArray_toList]
      exact holdsK_sortWorldK_c encH 2 w g 0 l.toArray d' n os hH hgl (by rw [hds]; simp)


set_option maxHeartbeats 1000000 in
set_option maxRecDepth 100000 in
/-- order.rising: rising, each once; a copy. -/
theorem risingH_call (l : List Hd) (v : Value) (w : World) (hl : Sl encH w v l) (hlen : l.length ≤ 100000) :
    Calls Tryz.prog 106 #[.func (.func 107) #[] #[], v] w fun e w' => ∃ v', e = .returned v' ∧ Own w.heap.size encH 2 w' v' (srt ltH l) ∧ RowKit.Below w.heap.size w w' := by
  go_enter Tryz.func106, Tryz.ntmps106
  go_wp2_with fail
  refine (cloneH_call l v w hl hlen).mono ?_
  rintro e w1 ⟨v1, rfl, ho1, _, hb1⟩
  have HO1 := Lib.hid ho1
  have HB1 := Lib.hid hb1
  clear ho1 hb1 hl
  go_wp2_with fail
  refine (sortH_call w.heap.size l v1 w1 HO1.out HB1.out.size hlen).mono ?_
  rintro e w2 ⟨rfl, ⟨d', hp, hs, ho2⟩, hb2⟩
  have hds : d'.size = l.length := by rw [hp.1]; simp
  have HSRT := Lib.hid (compact_srt sto_hd rfl hp hs)
  have HB2 := Lib.hid (HB1.out.trans hb2)
  obtain ⟨p, cap, hv1, h1, h2, h⟩ := ho2
  subst hv1
  have hcm : cap ≤ 9223372036854775807 := by unfold maxLen at h2; omega
  by_cases h0 : d'.size = 0
  · have hd0 : d' = #[] := Array.size_eq_zero_iff.1 h0
    subst hd0
    have HS0 := Lib.hid (show srt ltH l = [] by rw [← HSRT.out]; rfl)
    have H2 := Lib.hid h2
    clear hp hs h h1 hb2 h2
    go_wp2_with fail
    refine (show Calls Tryz.prog 146 #[.slice p 0 cap] w2 fun e w' => e = .returned (.slice p 0 cap) ∧ w' = w2 by
      go_enter Tryz.func146, Tryz.ntmps146
      go_wp2
      go_ret
      exact ⟨rfl, rfl⟩).mono ?_
    rintro e w3 ⟨rfl, rfl⟩
    go_wp2
    go_ret
    exact ⟨_, rfl, by rw [HS0.out]; exact ⟨p, cap, rfl, Nat.zero_le _, H2.out, fun h => absurd h (by simp)⟩, HB2.out⟩
  · obtain ⟨g, rfl, hbg, hgl, hH⟩ := h (by rw [Array.length_toList]; omega)
    rw [Array.toArray_toList] at hH
    rw [Array.length_toList] at h1 ⊢
    have hcon := compactH_call w.heap.size g cap d' w2 hH hbg (by omega) h1 hcm
    have HC := Lib.hid hcon
    have H2 := Lib.hid h2
    have HDS := Lib.hid hds
    clear hcon hp hs h hH hb2 h2 hds
    go_wp2_with fail
    refine HC.out.mono ?_
    rintro e w3 ⟨rfl, ⟨d2, hs2, hlow, hH2⟩, hb3⟩
    rw [HSRT.out] at hlow ⊢
    have hle : (srt ltH l).length ≤ d2.size := by have hds := HDS.out; have := srt_len ltH l; omega
    have HH := Lib.hid (holds_prefix lenH hH2 hle hlow)
    have HB3 := Lib.hid (HB2.out.trans hb3)
    have hgl3 : g < w3.heap.size := Nat.lt_of_lt_of_le hgl hb3.size
    clear hlow hH2 hb3
    go_wp2
    go_ret
    exact ⟨_, rfl, ⟨_, cap, rfl, by omega, H2.out, fun _ => ⟨g, rfl, hbg, hgl3, HH.out⟩⟩, HB3.out⟩


set_option maxHeartbeats 400000 in
/-- order.Handles. -/
theorem handles_call (l : List Hd) (v : Value) (w : World) (hl : Sl encH w v l) (hlen : l.length ≤ 100000) :
    Calls Tryz.prog 63 #[v] w fun e w' => ∃ v', e = .returned v' ∧ Own w.heap.size encH 2 w' v' (srt ltH l) ∧ RowKit.Below w.heap.size w w' := by
  go_enter Tryz.func63, Tryz.ntmps63
  go_wp2_with fail
  refine (risingH_call l v w hl hlen).mono ?_
  rintro e w1 ⟨v1, rfl, ho1, hb1⟩
  have HO1 := Lib.hid ho1
  have HB1 := Lib.hid hb1
  clear ho1 hb1 hl
  go_wp2
  go_ret
  exact ⟨_, rfl, HO1.out, HB1.out⟩

theorem headLess_step {α : Type} [Inhabited α] {lt : α → α → Bool} {x : α} : ∀ {l : List α} {k : Nat}, k ≤ headLess lt x l → k < l.length → (lt l[k]! x = true → k + 1 ≤ headLess lt x l) ∧ (lt l[k]! x = false → k = headLess lt x l)
  | [], _, _, h => absurd h (Nat.not_lt_zero _)
  | y :: r, 0, _, _ => by
    unfold headLess
    constructor
    · intro h; simp at h; simp [h]
    · intro h; simp at h; simp [h]
  | y :: r, k + 1, h1, h2 => by
    unfold headLess at h1 ⊢
    by_cases hy : lt y x = true
    · rw [if_pos hy] at h1 ⊢
      have ih := headLess_step (lt := lt) (x := x) (l := r) (k := k) (by omega) (by simpa using h2)
      constructor
      · intro h; have := ih.1 (by simpa using h); omega
      · intro h; have := ih.2 (by simpa using h); omega
    · rw [if_neg hy] at h1; omega


set_option maxHeartbeats 2000000 in
set_option maxRecDepth 100000 in
/-- The reference's PutHandle. -/
theorem putH_call (base : Nat) (l : List Hd) (v : Value) (x1 x2 : Int) (w : World) (hrow : w.ownsRow base 31 2 v l.length (flat encH l)) (hv : v ≠ .slice none 0 0) (hbase : base ≤ w.heap.size) (hlen : l.length ≤ 100000) :
    Calls Tryz.prog 68 #[v, .agg #[.int .i64 x1, .int .i64 x2]] w fun e w' => ∃ v', e = .returned v' ∧ w'.ownsRow base 31 2 v' (put ltH (x1, x2) l).length (flat encH (put ltH (x1, x2) l)) ∧ v' ≠ .slice none 0 0 ∧ Below w.heap.size w w' := by
  have hsl := row_sl lenH hrow rfl
  obtain ⟨g, cap, rfl, hbg, hgl, hlc, hcm⟩ := row_form hrow hv
  have hcells : ∀ j u, (flat encH l)[j]? = some u → w.cell? ⟨g, 0 + j, none⟩ = some u := by
    intro j u hu
    have hp : 0 < l.length := by
      rcases Nat.eq_zero_or_pos l.length with h | h
      · rw [List.length_eq_zero_iff.1 h] at hu; simp [flat] at hu
      · exact h
    obtain ⟨p, c, e, _, _, hX⟩ := hsl
    simp only [Value.slice.injEq] at e
    obtain ⟨rfl, _, rfl⟩ := e
    obtain ⟨g', o, e, _, h⟩ := hX hp
    simp only [Option.some.injEq, Addr.mk.injEq, and_true] at e
    obtain ⟨rfl, rfl⟩ := e
    exact h j u hu
  have hpe : put ltH (x1, x2) l = if l[headLess ltH (x1, x2) l]? = some (x1, x2) then l else l.take (headLess ltH (x1, x2) l) ++ (x1, x2) :: l.drop (headLess ltH (x1, x2) l) := put_eq _ _
  have hml : cap ≤ 9223372036854775807 := by unfold maxLen at hcm; omega
  obtain ⟨H, hH⟩ : ∃ H, H = headLess ltH (x1, x2) l := ⟨_, rfl⟩
  rw [← hH] at hpe
  have hHl : H ≤ l.length := by rw [hH]; exact headLess_le _ _
  have PE := Lib.hid hpe
  have HC := Lib.hid hcells
  have HR := Lib.hid hrow
  have EH := Lib.hid hH
  have HCM := Lib.hid hcm
  clear hsl hrow hv hpe hcells hH hcm
  have eq1 := eqH_run
  have gd1 := gdH_run
  have mixed : Tryz.prog.follows .mixedOrders = true := by kernel_rfl
  go_enter Tryz.func68, Tryz.ntmps68
  go_wp2
  go_loopw [5] (fun i wr => ∃ k : Nat, k ≤ H ∧ i = .int .i64 k ∧ Gr (w.alloc (.cells #[.int .i64 x1, .int .i64 x2] 31)) wr) (fun i _ => H - (intOf i).toNat)
  case atStart => exact ⟨0, Nat.zero_le _, rfl, (by repeat (first | with_reducible exact Gr.refl _ | with_reducible assumption | with_reducible apply Gr.alloc | with_reducible apply Gr.drewN | with_reducible apply Gr.drew | with_reducible apply Gr.grow | (with_reducible refine Gr.trans ?_ (by assumption))))⟩
  case round =>
    obtain ⟨k, hk, rfl, hg⟩ := hrel
    have hb1 := hg.below
    have hlw : w.heap.size < wr.heap.size := by have := hb1.size; simp at this; omega
    have hgw : g < wr.heap.size := by omega
    have d1 : wr.cell? ⟨w.heap.size, 0, none⟩ = some (.int .i64 x1) := (hb1.cell (p := ⟨w.heap.size, 0, none⟩) (by simp)).trans (by simp)
    have d2 : wr.cell? ⟨w.heap.size, 1, none⟩ = some (.int .i64 x2) := (hb1.cell (p := ⟨w.heap.size, 1, none⟩) (by simp)).trans (by simp)
    have cat : ∀ i, i < l.length → wr.cell? ⟨g, 0 + i * 2, none⟩ = some (.int .i64 l[i]!.1) ∧ wr.cell? ⟨g, 0 + i * 2 + 1, none⟩ = some (.int .i64 l[i]!.2) := fun i hi => by
      obtain ⟨c1, c2⟩ := atH HC.out hi
      refine ⟨(hb1.cell (p := ⟨g, 0 + i * 2, none⟩) (by simp; omega)).trans ?_, (hb1.cell (p := ⟨g, 0 + i * 2 + 1, none⟩) (by simp; omega)).trans ?_⟩
      · rw [World.cell?_alloc_past (w := w) _ g _ hgl]; exact c1
      · rw [World.cell?_alloc_past (w := w) _ g _ hgl]; exact c2
    have CAT := Lib.hid cat
    have HG := Lib.hid hg
    clear cat hb1 hg
    by_cases hkn : k < l.length
    · obtain ⟨c1, c2⟩ := CAT.out k hkn
      simp only [Nat.zero_add] at c1 c2
      have hstep := Lib.hid (headLess_step (by rw [← EH.out]; exact hk : k ≤ headLess ltH (x1, x2) l) hkn)
      generalize hx : l[k]! = y at c1 c2
      obtain ⟨y1, y2⟩ := y
      dsimp only at c1 c2
      have HX := Lib.hid hx
      clear hx
      have e1 := cell_grown (show (⟨g, k * 2, none⟩ : Addr).block < wr.heap.size from hgw) c1
      have e2 := cell_grown (show (⟨g, k * 2 + 1, none⟩ : Addr).block < wr.heap.size from hgw) c2
      have e3 := cell_grown (show (⟨w.heap.size, 0, none⟩ : Addr).block < wr.heap.size from hlw) d1
      have e4 := cell_grown (show (⟨w.heap.size, 1, none⟩ : Addr).block < wr.heap.size from hlw) d2
      have hkz : (k : Int) < (l.length : Int) := by omega
      cases hb : ltH (y1, y2) (x1, x2)
      · -- the loop ends here
        have KH := Lib.hid (show k = H by rw [EH.out]; exact hstep.out.2 (by rw [HX.out]; exact hb))
        have hc := fun n os => rless_is hb (grow (wr.drewN n) os)
        go_wp2_with fail
        go_quiet_grown (first | (go_at_call 111; refine Calls.grown_of (hc _ _)))
        go_wp2_with fail
        obtain ⟨W1, hW1⟩ : ∃ W1, W1 = grow (wr.drewN nq) osq := ⟨_, rfl⟩
        have g1 : Gr (w.alloc (.cells #[.int .i64 x1, .int .i64 x2] 31)) W1 := by rw [hW1]; exact HG.out.drewN.grow
        have b1 := g1.below
        have s1 : wr.heap.size ≤ W1.heap.size := by rw [hW1, size_grow]; exact Nat.le_add_right _ _
        replace c1 : W1.cell? ⟨g, k * 2, none⟩ = some (.int .i64 y1) := by rw [hW1]; exact e1 nq osq
        replace c2 : W1.cell? ⟨g, k * 2 + 1, none⟩ = some (.int .i64 y2) := by rw [hW1]; exact e2 nq osq
        replace d1 : W1.cell? ⟨w.heap.size, 0, none⟩ = some (.int .i64 x1) := by rw [hW1]; exact e3 nq osq
        replace d2 : W1.cell? ⟨w.heap.size, 1, none⟩ = some (.int .i64 x2) := by rw [hW1]; exact e4 nq osq
        rw [← hW1]
        have hgw1 : g < W1.heap.size := by omega
        have hlw1 : w.heap.size < W1.heap.size := by omega
        have HG1 := Lib.hid g1
        clear hW1 e1 e2 e3 e4 hc g1 b1 s1 HG
        have e1 := cell_grown (show (⟨g, k * 2, none⟩ : Addr).block < W1.heap.size from hgw1) c1
        have e2 := cell_grown (show (⟨g, k * 2 + 1, none⟩ : Addr).block < W1.heap.size from hgw1) c2
        have e3 := cell_grown (show (⟨w.heap.size, 0, none⟩ : Addr).block < W1.heap.size from hlw1) d1
        have e4 := cell_grown (show (⟨w.heap.size, 1, none⟩ : Addr).block < W1.heap.size from hlw1) d2
        by_cases hxy : ((y1, y2) : Hd) = (x1, x2)
        · obtain ⟨rfl, rfl⟩ : y1 = x1 ∧ y2 = x2 := by simpa using hxy
          go_quiet_grown (fail)
          go_wp2
          go_ret
          have hk2 : l[k]? = some (y1, y2) := by rw [List.getElem?_eq_getElem hkn, ← HX.out, getElem!_pos l k hkn]
          have hp : put ltH (y1, y2) l = l := by rw [PE.out, ← KH.out, if_pos hk2]
          rw [hp]
          have hB : RowKit.Below w.heap.size w (grow (W1.drewN nq) osq) := Bt (Ba (Below.refl _ _) _) (HG1.out.drewN.grow).below
          exact ⟨_, rfl, row_below HR.out hB, by simp, hB⟩
        · have e5 := and_ne hxy
          have hk2 : ¬ l[k]? = some (x1, x2) := by rw [List.getElem?_eq_getElem hkn]; intro h; apply hxy; rw [← HX.out, getElem!_pos l k hkn]; exact Option.some.inj h
          have hp := Lib.hid (show put ltH (x1, x2) l = l.take k ++ (x1, x2) :: l.drop k by rw [PE.out, ← KH.out, if_neg hk2])
          clear hk2 hxy
          go_quiet_grown (fail)
          have g2 : Gr (w.alloc (.cells #[.int .i64 x1, .int .i64 x2] 31)) (grow (W1.drewN nq) osq) := HG1.out.drewN.grow
          generalize grow (W1.drewN nq) osq = W2 at g2 ⊢
          have HP := hp
          obtain ⟨a, ha⟩ : ∃ a, a = w.alloc (.cells #[.int .i64 x1, .int .i64 x2] 31) := ⟨_, rfl⟩
          have has : a.heap.size = w.heap.size + 1 := by rw [ha]; simp
          have DA : Hid (a.cell? ⟨w.heap.size, 0, none⟩ = some (.int .i64 x1) ∧ a.cell? ⟨w.heap.size, 1, none⟩ = some (.int .i64 x2)) := by rw [ha]; exact ⟨by simp, by simp⟩
          have CA : Hid (∀ j u, (flat encH l)[j]? = some u → a.cell? ⟨g, 0 + j, none⟩ = some u) := fun j u hu => by rw [ha, World.cell?_alloc_past (w := w) _ g _ hgl]; exact HC.out j u hu
          have WA : Hid (RowKit.Below w.heap.size w a) := by rw [ha]; exact Ba (Below.refl _ _) _
          rw [← ha] at g2
          clear ha
          have b2 := g2.below
          have SLT : ∀ W, RowKit.Below a.heap.size a W → Sl encH W (.slice (some ⟨g, 0, none⟩) k cap) (l.take k) := fun W hb => sl_take lenH k (by omega) hlc HCM.out (Bl hb (by omega)) (fun j u hu => Bc hb (by omega) (CA.out j u hu))
          have SLD : ∀ W, RowKit.Below a.heap.size a W → Sl encH W (.slice (some ⟨g, k * 2, none⟩) (l.length - k) (cap - k)) (l.drop k) := fun W hb => by have := sl_drop lenH (w := W) k (by omega) hlc HCM.out (Bl hb (by omega)) (fun j u hu => Bc hb (by omega) (CA.out j u hu)); rwa [Nat.zero_add] at this
          have a1 := Ba b2 (.cells #[] 31)
          have o1 : (W2.alloc (.cells #[] 31)).ownsRow a.heap.size 31 2 (.slice (some ⟨W2.heap.size, 0, none⟩) 0 0) 0 (flat encH []) := World.ownsRow_made _ #[] 0 b2.size (Nat.zero_le _) (by simp)
          have SLT := Lib.hid SLT
          have SLD := Lib.hid SLD
          have A1 := Lib.hid a1
          have O1 := Lib.hid o1
          have B2 := Lib.hid b2
          clear a1 o1 b2
          go_wp2_with (first
            | (at_builtin; refine wpl_app apH rfl _ _ rfl a.heap.size (by rfl) (by rfl) O1.out rfl (SLT.out _ A1.out) (by simp; omega) A1.out.size ?_; intro v1 w1 hown1 hgrow1 hnil1; have b3 := grownB A1.out O1.out hgrow1; have O3 := Lib.hid hown1; have N3 := Lib.hid (show v1 ≠ .slice none 0 0 from fun h => by simp [h] at hnil1); have d1 : w1.cell? ⟨w.heap.size, 0, none⟩ = some (.int .i64 x1) := Bc b3 (by omega) DA.out.1; have d2 : w1.cell? ⟨w.heap.size, 1, none⟩ = some (.int .i64 x2) := Bc b3 (by omega) DA.out.2; have A3 := Lib.hid (Ba b3 (.cells #[.int .i64 x1, .int .i64 x2] 31)); have O4 := Lib.hid (O3.out.alloc (.cells #[.int .i64 x1, .int .i64 x2] 31)); have S4 := Lib.hid (sl_lit (enc := encH) (w := w1) (cs := #[.int .i64 x1, .int .i64 x2]) (t := 31) (b := w1.heap.size) [(x1, x2)] rfl rfl (by unfold maxLen; simp)); clear hown1 hgrow1 hnil1 b3 O1)
            | (at_builtin; refine wpl_app apH rfl _ _ rfl a.heap.size (by rfl) (by rfl) O4.out (by first | (simp; done) | (simp; omega)) S4.out (by first | (simp; done) | (simp; omega)) A3.out.size ?_; intro v2 w2 hown2 hgrow2 hnil2; have b5 := grownB A3.out O4.out hgrow2; have B5 := Lib.hid b5; have O5 := Lib.hid hown2; have N5 := Lib.hid (show v2 ≠ .slice none 0 0 from fun h => N3.out (hnil2.1 h).1); clear hown2 hgrow2 hnil2 b5 O4)
            | (at_builtin; refine wpl_app apH rfl _ _ rfl a.heap.size (by rfl) (by rfl) O5.out (by first | (simp; done) | (simp; omega)) (SLD.out _ B5.out) (by first | (simp; done) | (simp; omega)) B5.out.size ?_; intro v3 w3 hown3 hgrow3 hnil3))
          have b6 := grownB B5.out O5.out hgrow3
          go_ret
          have hBw : RowKit.Below w.heap.size w w3 := WA.out.trans (b6.mono (by omega))
          refine ⟨v3, rfl, ?_, fun h => N5.out (hnil3.1 h).1, hBw⟩
          rw [HP.out]
          have e1 : ([] ++ l.take k ++ [(x1, x2)]) ++ l.drop k = l.take k ++ (x1, x2) :: l.drop k := by simp
          rw [e1] at hown3
          have e2 : ([] ++ l.take k ++ [(x1, x2)]).length + (l.drop k).length = (l.take k ++ (x1, x2) :: l.drop k).length := by simp; omega
          rw [e2] at hown3
          exact row_mono hown3 (show base ≤ a.heap.size by omega)
      · have hc := fun n os => rless_is hb (grow (wr.drewN n) os)
        have hkH : k + 1 ≤ H := by rw [EH.out]; exact hstep.out.1 (by rw [HX.out]; exact hb)
        go_wp2_with fail
        go_quiet_grown (first | (go_at_call 111; refine Calls.grown_of (hc _ _)))
        go_wp2
        go_roundw
        case measure => simp [intOf]; omega
        case rel => exact ⟨k + 1, hkH, by go_num, (HG.out.drewN).grow⟩
    · have KL := Lib.hid (show k = l.length by omega)
      have hkz : ¬ (k : Int) < (l.length : Int) := by omega
      have hk2 : ¬ l[H]? = some (x1, x2) := by rw [List.getElem?_eq_none (by omega)]; simp
      have hHk : H = k := by omega
      have HP := Lib.hid (show put ltH (x1, x2) l = l.take k ++ (x1, x2) :: l.drop k by rw [PE.out, if_neg hk2, hHk])
      clear hk2 hHk
      go_wp2_with fail
      go_quiet_grown (fail)
      have g1 : Gr (w.alloc (.cells #[.int .i64 x1, .int .i64 x2] 31)) (grow (wr.drewN nq) osq) := HG.out.drewN.grow
      generalize grow (wr.drewN nq) osq = W1 at g1 ⊢
      go_wp2_with fail
      go_quiet_grown (fail)
      have g2 : Gr (w.alloc (.cells #[.int .i64 x1, .int .i64 x2] 31)) (grow (W1.drewN nq) osq) := g1.drewN.grow
      generalize grow (W1.drewN nq) osq = W2 at g2 ⊢
      obtain ⟨a, ha⟩ : ∃ a, a = w.alloc (.cells #[.int .i64 x1, .int .i64 x2] 31) := ⟨_, rfl⟩
      have has : a.heap.size = w.heap.size + 1 := by rw [ha]; simp
      have DA : Hid (a.cell? ⟨w.heap.size, 0, none⟩ = some (.int .i64 x1) ∧ a.cell? ⟨w.heap.size, 1, none⟩ = some (.int .i64 x2)) := by rw [ha]; exact ⟨by simp, by simp⟩
      have CA : Hid (∀ j u, (flat encH l)[j]? = some u → a.cell? ⟨g, 0 + j, none⟩ = some u) := fun j u hu => by rw [ha, World.cell?_alloc_past (w := w) _ g _ hgl]; exact HC.out j u hu
      have WA : Hid (RowKit.Below w.heap.size w a) := by rw [ha]; exact Ba (Below.refl _ _) _
      rw [← ha] at g2
      clear ha
      have b2 := g2.below
      have SLT : ∀ W, RowKit.Below a.heap.size a W → Sl encH W (.slice (some ⟨g, 0, none⟩) k cap) (l.take k) := fun W hb => sl_take lenH k (by omega) hlc HCM.out (Bl hb (by omega)) (fun j u hu => Bc hb (by omega) (CA.out j u hu))
      have SLD : ∀ W, RowKit.Below a.heap.size a W → Sl encH W (.slice (if cap = k then some ⟨g, 0, none⟩ else some ⟨g, k * 2, none⟩) (l.length - k) (cap - k)) (l.drop k) := fun W hb => ⟨_, cap - k, by rw [List.length_drop], by rw [List.length_drop]; omega, by have := HCM.out; omega, fun h => absurd h (by rw [List.length_drop]; have := KL.out; omega)⟩
      have a1 := Ba b2 (.cells #[] 31)
      have o1 : (W2.alloc (.cells #[] 31)).ownsRow a.heap.size 31 2 (.slice (some ⟨W2.heap.size, 0, none⟩) 0 0) 0 (flat encH []) := World.ownsRow_made _ #[] 0 b2.size (Nat.zero_le _) (by simp)
      have SLT := Lib.hid SLT
      have SLD := Lib.hid SLD
      have A1 := Lib.hid a1
      have O1 := Lib.hid o1
      have B2 := Lib.hid b2
      clear a1 o1 b2
      go_wp2_with (first
        | (at_builtin; refine wpl_app apH rfl _ _ rfl a.heap.size (by rfl) (by rfl) O1.out rfl (SLT.out _ A1.out) (by simp; omega) A1.out.size ?_; intro v1 w1 hown1 hgrow1 hnil1; have b3 := grownB A1.out O1.out hgrow1; have O3 := Lib.hid hown1; have N3 := Lib.hid (show v1 ≠ .slice none 0 0 from fun h => by simp [h] at hnil1); have d1 : w1.cell? ⟨w.heap.size, 0, none⟩ = some (.int .i64 x1) := Bc b3 (by omega) DA.out.1; have d2 : w1.cell? ⟨w.heap.size, 1, none⟩ = some (.int .i64 x2) := Bc b3 (by omega) DA.out.2; have A3 := Lib.hid (Ba b3 (.cells #[.int .i64 x1, .int .i64 x2] 31)); have O4 := Lib.hid (O3.out.alloc (.cells #[.int .i64 x1, .int .i64 x2] 31)); have S4 := Lib.hid (sl_lit (enc := encH) (w := w1) (cs := #[.int .i64 x1, .int .i64 x2]) (t := 31) (b := w1.heap.size) [(x1, x2)] rfl rfl (by unfold maxLen; simp)); clear hown1 hgrow1 hnil1 b3 O1)
        | (at_builtin; refine wpl_app apH rfl _ _ rfl a.heap.size (by rfl) (by rfl) O4.out (by first | (simp; done) | (simp; omega)) S4.out (by first | (simp; done) | (simp; omega)) A3.out.size ?_; intro v2 w2 hown2 hgrow2 hnil2; have b5 := grownB A3.out O4.out hgrow2; have B5 := Lib.hid b5; have O5 := Lib.hid hown2; have N5 := Lib.hid (show v2 ≠ .slice none 0 0 from fun h => N3.out (hnil2.1 h).1); clear hown2 hgrow2 hnil2 b5 O4)
        | (at_builtin; refine wpl_app apH rfl _ _ rfl a.heap.size (by rfl) (by rfl) O5.out (by first | (simp; done) | (simp; omega)) (SLD.out _ B5.out) (by first | (simp; done) | (simp; omega)) B5.out.size ?_; intro v3 w3 hown3 hgrow3 hnil3))
      all_goals
        have b6 := grownB B5.out O5.out hgrow3
        go_ret
        have hBw : RowKit.Below w.heap.size w w3 := WA.out.trans (b6.mono (by omega))
        refine ⟨v3, rfl, ?_, fun h => N5.out (hnil3.1 h).1, hBw⟩
        rw [HP.out]
        have e1 : ([] ++ l.take k ++ [(x1, x2)]) ++ l.drop k = l.take k ++ (x1, x2) :: l.drop k := by simp
        rw [e1] at hown3
        have e2 : ([] ++ l.take k ++ [(x1, x2)]).length + (l.drop k).length = (l.take k ++ (x1, x2) :: l.drop k).length := by simp; omega
        rw [e2] at hown3
        exact row_mono hown3 (show base ≤ a.heap.size by omega)


set_option maxHeartbeats 1000000 in
set_option maxRecDepth 100000 in
/-- The reference's Handles: rising, each once. -/
theorem rhandles_call (l : List Hd) (v : Value) (w : World) (hl : Sl encH w v l) (hlen : l.length ≤ 100000) :
    Calls Tryz.prog 34 #[v] w fun e w' => ∃ v', e = .returned v' ∧ w'.ownsRow w.heap.size 31 2 v' (srt ltH l).length (flat encH (srt ltH l)) ∧ v' ≠ .slice none 0 0 ∧ Below w.heap.size w w' := by
  obtain ⟨p, cap, rfl, h1, h2, h⟩ := hl
  have HL := Lib.hid h
  have hz : (l.length : Int) ≤ 100000 := by omega
  clear h
  go_enter Tryz.func34, Tryz.ntmps34
  go_wp2
  go_loopw [3, 9] (fun v i wr => ∃ k : Nat, k ≤ l.length ∧ i = .int .i64 k ∧ RowKit.Below w.heap.size w wr ∧ v ≠ .slice none 0 0 ∧ wr.ownsRow w.heap.size 31 2 v (srt ltH (l.take k)).length (flat encH (srt ltH (l.take k)))) (fun _ i _ => l.length - (intOf i).toNat)
  case atStart => exact ⟨0, Nat.zero_le _, rfl, (by repeat (first | with_reducible exact Below.refl _ _ | with_reducible assumption | with_reducible apply Ba | with_reducible apply Bd | with_reducible apply Bn | with_reducible apply Bg | (with_reducible refine Bs ?_ (by first | (simp; done) | (simp; omega)) _) | (with_reducible refine Bt ?_ (by assumption)) | (with_reducible refine Bt ?_ (Gr.below (by assumption))))), by simp, World.ownsRow_made w #[] 0 (Nat.le_refl _) (Nat.zero_le _) (by simp)⟩
  case round =>
    obtain ⟨k, hk, rfl, hb, hv, ho⟩ := hrel
    by_cases hkn : k < l.length
    · obtain ⟨g, o, rfl, hg1, hg2⟩ := HL.out (by omega)
      obtain ⟨c1, c2⟩ := atH hg2 hkn
      replace c1 := Bc hb hg1 c1
      replace c2 := Bc hb hg1 c2
      have et := srt_take (lt := ltH) l k hkn
      rw [← getElem!_pos l k hkn] at et
      have hlen2 : (srt ltH (l.take k)).length ≤ 100000 := by have := srt_len ltH (l.take k); simp at this; omega
      generalize hx : l[k]! = x at *
      obtain ⟨x1, x2⟩ := x
      dsimp only at c1 c2
      have HB := Lib.hid hb
      have HV := Lib.hid hv
      have HO := Lib.hid ho
      have ET := Lib.hid et
      have H2 := Lib.hid hlen2
      have HB2 := Lib.hid (Ba hb (.cells #[.int .i64 x1, .int .i64 x2] 31))
      have HO2 := Lib.hid (ho.alloc (.cells #[.int .i64 x1, .int .i64 x2] 31))
      clear hg2 hx hb hv ho et hlen2
      go_wp2_with (go_at_call 68; refine (putH_call w.heap.size _ _ _ _ _ HO2.out HV.out HB2.out.size H2.out).mono ?_; rintro e w1 ⟨v1, rfl, ho1, hv1, hb1⟩)
      go_roundw
      case measure => simp [intOf]; omega
      case rel => exact ⟨k + 1, by omega, by go_num, Bt HB2.out hb1, hv1, by rw [ET.out]; exact ho1⟩
    · have hkn' : k = l.length := by omega
      rw [hkn', List.take_length] at ho
      have HO := Lib.hid ho
      have HV := Lib.hid hv
      have KN := Lib.hid hkn'
      clear ho hv hkn'
      go_wp2
      go_ret
      exact ⟨_, rfl, HO.out, HV.out, hb⟩

end Go.Proofs.YtaehendpdfpibaaGreatDoor
