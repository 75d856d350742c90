import Derived.Test.YtahichjiphjapaaGreatDoorZ0
import Derived.Laws.StructEq
import Derived.Shelf.SlSortCmp.QuietGrown
import Derived.Deep.LoopGhost

/-
  The comparisons: cmp.Compare, cmp.Or, order.compare, order.comparePairs, order.Less, and the reference's Less and PairLess.
-/
namespace Go.Proofs.YtahichjiphjapaaGreatDoor
set_option linter.unusedSimpArgs false
set_option linter.unusedVariables false
open Go.RowKit Go.Sort Go.Lib Go.Shelf


theorem isNaN_any (x : Int) (w : World) : Calls Tryz.prog 104 #[.int .i64 x] w fun e w' => e = .returned (.bool false) ∧ w' = w := by
  go_enter Tryz.func104, Tryz.ntmps104
  go_wp2
  go_ret
  exact ⟨by simp, rfl⟩

set_option maxHeartbeats 1000000 in
theorem compare_any (x y : Int) (w : World) : Calls Tryz.prog 93 #[.int .i64 x, .int .i64 y] w fun e w' => e = .returned (.int .i64 (Lib.compareInt x y)) ∧ w' = w := by
  go_enter Tryz.func93, Tryz.ntmps93
  go_wp2_with (go_at_call 104; refine (isNaN_any _ _).mono ?_; rintro e w' ⟨rfl, hw⟩; rw [hw])
  all_goals (go_ret; refine ⟨?_, rfl⟩; unfold Lib.compareInt; (repeat' split) <;> first | rfl | (exfalso; omega))

set_option maxHeartbeats 1000000 in
theorem or_any (x y : Int) (b : Nat) (w : World) (hx : w.cell? ⟨b, 0, none⟩ = some (.int .i64 x)) (hy : w.cell? ⟨b, 1, none⟩ = some (.int .i64 y)) : Calls Tryz.prog 92 #[.slice (some ⟨b, 0, none⟩) 2 2] w fun e w' => e = .returned (.int .i64 (orI x y)) ∧ w' = w := by
  go_enter Tryz.func92, Tryz.ntmps92
  go_wp2
  go_loopw [8] (fun i wr => wr = w ∧ (i = .int .i64 0 ∨ (i = .int .i64 1 ∧ x = 0) ∨ (i = .int .i64 2 ∧ x = 0 ∧ y = 0))) (fun i _ => 2 - (intOf i).toNat)
  case atStart => exact ⟨by trivial, .inl rfl⟩
  case round =>
    obtain ⟨rfl, rfl | ⟨rfl, h0⟩ | ⟨rfl, h0, h1⟩⟩ := hrel
    · by_cases h : x = 0
      · go_wp2
        go_roundw
        case measure => simp [intOf]
        case rel => exact ⟨by trivial, .inr (.inl ⟨by go_num, h⟩)⟩
      · go_wp2
        go_ret
        exact ⟨by simp [orI, h], rfl⟩
    · by_cases h : y = 0
      · go_wp2
        go_roundw
        case measure => simp [intOf]
        case rel => exact ⟨by trivial, .inr (.inr ⟨by go_num, h0, h⟩)⟩
      · go_wp2
        go_ret
        exact ⟨by simp [orI, h0], rfl⟩
    · go_wp2
      go_ret
      exact ⟨by simp [orI, h0, h1], rfl⟩

/-- The slice of two that a call of cmp.Or has just built. -/
theorem or_new (x y : Int) (b : Nat) (w : World) (t : TypeId) (hb : b = w.heap.size) : Calls Tryz.prog 92 #[.slice (some ⟨b, 0, none⟩) 2 2] (w.alloc (.cells #[.int .i64 x, .int .i64 y] t)).drew fun e w' => e = .returned (.int .i64 (orI x y)) ∧ w' = (w.alloc (.cells #[.int .i64 x, .int .i64 y] t)).drew := by
  subst hb
  exact or_any x y _ _ (by simp) (by simp)

set_option maxHeartbeats 400000 in
set_option maxRecDepth 100000 in
/-- order.compare: by Index, and of one Index by Gen. -/
theorem cmpH_any (x y : Hd) (w : World) : Calls Tryz.prog 58 #[.agg #[.int .i64 x.1, .int .i64 x.2], .agg #[.int .i64 y.1, .int .i64 y.2]] w fun e w' => e = .returned (.int .i64 (cmpH x y)) ∧ Gr w w' := by
  obtain ⟨x1, x2⟩ := x
  obtain ⟨y1, y2⟩ := y
  unfold cmpH
  dsimp only
  go_enter Tryz.func58, Tryz.ntmps58
  go_wp2_with fail
  go_region_held3 (fun w' => Gr ((w.alloc (.cells #[.int .i64 x1, .int .i64 x2] 42)).alloc (.cells #[.int .i64 y1, .int .i64 y2] 42)) w' ∧ ∀ b_1 o, b_1 < ((w.alloc (.cells #[.int .i64 x1, .int .i64 x2] 42)).alloc (.cells #[.int .i64 y1, .int .i64 y2] 42)).heap.size → w'.cell? ⟨b_1, o, none⟩ = ((w.alloc (.cells #[.int .i64 x1, .int .i64 x2] 42)).alloc (.cells #[.int .i64 y1, .int .i64 y2] 42)).cell? ⟨b_1, o, none⟩) (first | exact gkeep0 _ | exact gkeepG (by assumption) hg1 | exact gkeepA (by assumption) _ | assumption)
    (first
      | (go_at_call 93; refine (compare_any _ _ _).mono ?_; rintro e w1 ⟨rfl, rfl⟩)
      | (go_at_call 92; refine (or_new (Lib.compareInt x1 y1) (Lib.compareInt x2 y2) _ _ _ (by simp)).mono ?_; rintro e w1 ⟨rfl, rfl⟩))
  go_wp2
  go_ret
  exact ⟨rfl, (by repeat (first | with_reducible exact Gr.refl _ | with_reducible assumption | with_reducible apply Gr.alloc | with_reducible apply Gr.drewN | with_reducible apply Gr.drew | with_reducible apply Gr.grow | (with_reducible refine Gr.trans ?_ (by assumption))))⟩
theorem cmpH_call (a b c d : Int) (w : World) : Calls Tryz.prog 58 #[.agg #[.int .i64 a, .int .i64 b], .agg #[.int .i64 c, .int .i64 d]] w fun e w' => e = .returned (.int .i64 (cmpH (a, b) (c, d))) ∧ Gr w w' := cmpH_any (a, b) (c, d) w

theorem or_new0 (x y : Int) (b : Nat) (w : World) (t : TypeId) (hb : b = w.heap.size) : Calls Tryz.prog 92 #[.slice (some ⟨b, 0, none⟩) 2 2] (w.alloc (.cells #[.int .i64 x, .int .i64 y] t)) fun e w' => e = .returned (.int .i64 (orI x y)) ∧ w' = w.alloc (.cells #[.int .i64 x, .int .i64 y] t) := by
  subst hb
  exact or_any x y _ _ (by simp) (by simp)

set_option maxHeartbeats 400000 in
/-- order.Less. -/
theorem less_call (a b c d : Int) (w : World) : Calls Tryz.prog 79 #[.agg #[.int .i64 a, .int .i64 b], .agg #[.int .i64 c, .int .i64 d]] w fun e w' => e = .returned (.bool (ltH (a, b) (c, d))) ∧ Gr w w' := by
  go_enter Tryz.func79, Tryz.ntmps79
  go_wp2_with (go_at_call 58; refine (cmpH_call _ _ _ _ _).mono ?_; rintro e w1 ⟨rfl, hg1⟩)
  go_ret
  exact ⟨ret_bool (by rw [← cmpH_lt]), (by repeat (first | with_reducible exact Gr.refl _ | with_reducible assumption | with_reducible apply Gr.alloc | with_reducible apply Gr.drewN | with_reducible apply Gr.drew | with_reducible apply Gr.grow | (with_reducible refine Gr.trans ?_ (by assumption))))⟩

set_option maxHeartbeats 400000 in
/-- The reference's Less. -/
theorem rless_call (a b c d : Int) (w : World) : Calls Tryz.prog 37 #[.agg #[.int .i64 a, .int .i64 b], .agg #[.int .i64 c, .int .i64 d]] w fun e w' => e = .returned (.bool (ltH (a, b) (c, d))) ∧ Gr w w' := by
  by_cases h1 : a < c
  · have e : ltH (a, b) (c, d) = true := by simp [ltH_eq, h1]
    rw [e]
    go_enter Tryz.func37, Tryz.ntmps37
    go_wp2
    go_ret
    exact ⟨rfl, (by repeat (first | with_reducible exact Gr.refl _ | with_reducible assumption | with_reducible apply Gr.alloc | with_reducible apply Gr.drewN | with_reducible apply Gr.drew | with_reducible apply Gr.grow | (with_reducible refine Gr.trans ?_ (by assumption))))⟩
  · by_cases h2 : a = c
    · have e : ltH (a, b) (c, d) = decide (b < d) := by simp [ltH_eq, h2]
      rw [e]
      subst h2
      go_enter Tryz.func37, Tryz.ntmps37
      go_wp2
      go_ret
      exact ⟨by simp, (by repeat (first | with_reducible exact Gr.refl _ | with_reducible assumption | with_reducible apply Gr.alloc | with_reducible apply Gr.drewN | with_reducible apply Gr.drew | with_reducible apply Gr.grow | (with_reducible refine Gr.trans ?_ (by assumption))))⟩
    · have e : ltH (a, b) (c, d) = false := by simp [ltH_eq, h1, h2]
      rw [e]
      go_enter Tryz.func37, Tryz.ntmps37
      go_wp2
      go_ret
      exact ⟨rfl, (by repeat (first | with_reducible exact Gr.refl _ | with_reducible assumption | with_reducible apply Gr.alloc | with_reducible apply Gr.drewN | with_reducible apply Gr.drew | with_reducible apply Gr.grow | (with_reducible refine Gr.trans ?_ (by assumption))))⟩
end Go.Proofs.YtahichjiphjapaaGreatDoor

/-
  What only reads: comparisons of lists (the reference's Same, SamePairs, Has; SameInts, KeptInts), PairLess, order.Pair.
-/
namespace Go.Proofs.YtahichjiphjapaaGreatDoor
set_option linter.unusedSimpArgs false
set_option linter.unusedVariables false
open Go.RowKit Go.Sort Go.Lib Go.Shelf

theorem eqH_run (x1 x2 y1 y2 : Int) (w : World) : Sem.run Tryz.prog (binOp .eql 42 (.agg #[.int .i64 x1, .int .i64 x2]) (.agg #[.int .i64 y1, .int .i64 y2])) w = .ok (.bool (decide ((x1, x2) = (y1, y2)))) w := by
  have u3 := Tryz.underlying3
  have a3 := Tryz.isAgg3
  have z3 := Tryz.sizeOf3
  have hS : Tryz.prog.underlying 42 = some (.struct (Tryz.prog.fieldsOf 42)) := by kernel_rfl
  have hp : Tryz.prog.stoodInHeld 42 = false := by kernel_rfl
  rw [run_eql_struct, show (10000 : Nat) = 9999 + 1 from rfl, run_equalIn_agg w 9999 42 _ _ hS hp]
  simp only [Program.fieldsOf, Tryz.underlying42]
  go_simp
  by_cases h1 : x1 = y1 <;> by_cases h2 : x2 = y2 <;> simp [h1, h2]
theorem neH_run (x1 x2 y1 y2 : Int) (w : World) : Sem.run Tryz.prog (binOp .neq 42 (.agg #[.int .i64 x1, .int .i64 x2]) (.agg #[.int .i64 y1, .int .i64 y2])) w = .ok (.bool (!decide ((x1, x2) = (y1, y2)))) w := by
  have h := eqH_run x1 x2 y1 y2 w
  rw [run_eql_struct] at h
  rw [run_neq_struct]
  cases hr : (Op.equalIn 10000 42 (.agg #[.int .i64 x1, .int .i64 x2]) (.agg #[.int .i64 y1, .int .i64 y2])).run Tryz.prog w with
  | ok b w' =>
    rw [hr] at h
    simp only [Result.andThen_ok, Result.ok.injEq, Value.bool.injEq] at h ⊢
    obtain ⟨rfl, rfl⟩ := h
    exact ⟨rfl, rfl⟩
  | halt x w' => rw [hr] at h; simp [Result.andThen] at h
theorem gdH_run (op : BinOp) (a b : Operand) (xs ys : Array Value) (w : World) : Sem.run Tryz.prog (eqGuard op 42 a b (.agg xs) (.agg ys)) w = .ok () w :=
  run_eqGuard_agg w op 42 a b xs ys (by kernel_rfl)

set_option maxHeartbeats 1000000 in
/-- The reference's Same: two lists of handles. -/
theorem same_call (la lb : List Hd) (va vb : Value) (w : World) (ha : Sl encH w va la) (hb : Sl encH w vb lb) : Calls Tryz.prog 15 #[va, vb] w fun e w' => e = .returned (.bool (decide (la = lb))) ∧ Gr w w' := by
  obtain ⟨pa, ca, rfl, ha1, ha2, ha⟩ := ha
  obtain ⟨pb, cb, rfl, hb1, hb2, hb⟩ := hb
  have eq1 := eqH_run
  have ne1 := neH_run
  have gd1 := gdH_run
  by_cases hl : la.length = lb.length
  · have hbig : la.length ≤ 9223372036854775807 := by unfold maxLen at ha2; omega
    have HA := Lib.hid ha
    have HB := Lib.hid hb
    clear ha hb ha2 hb2
    go_enter Tryz.func15, Tryz.ntmps15
    rw [← hl]
    go_wp2
    go_loopw [13] (fun i wr => ∃ k : Nat, k ≤ la.length ∧ i = .int .i64 k ∧ Gr w wr ∧ la.take k = lb.take k) (fun i _ => la.length - (intOf i).toNat)
    case atStart => exact ⟨0, Nat.zero_le _, rfl, (by repeat (first | with_reducible exact Gr.refl _ | with_reducible assumption | with_reducible apply Gr.alloc | with_reducible apply Gr.drewN | with_reducible apply Gr.drew | with_reducible apply Gr.grow | (with_reducible refine Gr.trans ?_ (by assumption)))), by simp⟩
    case round =>
      obtain ⟨k, hk, rfl, hg, ht⟩ := hrel
      by_cases hkn : k < la.length
      · obtain ⟨g, o, rfl, hg1, hg2⟩ := HA.out (by omega)
        obtain ⟨g', o', rfl, hg3, hg4⟩ := HB.out (by omega)
        obtain ⟨c1, c2⟩ := atH hg2 hkn
        obtain ⟨d1, d2⟩ := atH hg4 (show k < lb.length by omega)
        replace c1 := Bc hg.below hg1 c1
        replace c2 := Bc hg.below hg1 c2
        replace d1 := Bc hg.below hg3 d1
        replace d2 := Bc hg.below hg3 d2
        have hstep := Lib.hid (take_succ_eq la lb k hl hkn ht)
        have HT := Lib.hid ht
        clear ht hg2 hg4
        generalize hx : la[k]! = x at *
        generalize hy : lb[k]! = y at *
        obtain ⟨x1, x2⟩ := x
        obtain ⟨y1, y2⟩ := y
        dsimp only at c1 c2 d1 d2
        by_cases hxy : ((x1, x2) : Hd) = (y1, y2)
        · have e : decide (((x1, x2) : Hd) = (y1, y2)) = true := decide_eq_true hxy
          go_wp2_with fail
          go_region
          go_wp2
          go_roundw
          case measure => simp [intOf]; omega
          case rel => exact ⟨k + 1, by omega, by go_num, (by repeat (first | with_reducible exact Gr.refl _ | with_reducible assumption | with_reducible apply Gr.alloc | with_reducible apply Gr.drewN | with_reducible apply Gr.drew | with_reducible apply Gr.grow | (with_reducible refine Gr.trans ?_ (by assumption)))), hstep.out.2 hxy⟩
        · have e : decide (((x1, x2) : Hd) = (y1, y2)) = false := decide_eq_false hxy
          have hne : decide (la = lb) = false := decide_eq_false fun h => hxy (hstep.out.1 (by rw [h]))
          go_wp2_with fail
          go_region
          go_wp2
          go_ret
          exact ⟨by rw [hne]; rfl, (by repeat (first | with_reducible exact Gr.refl _ | with_reducible assumption | with_reducible apply Gr.alloc | with_reducible apply Gr.drewN | with_reducible apply Gr.drew | with_reducible apply Gr.grow | (with_reducible refine Gr.trans ?_ (by assumption))))⟩
      · have hkn' : k = la.length := by omega
        have he : la = lb := by
          have := ht
          rwa [hkn', List.take_length, hl, List.take_length] at this
        go_wp2
        go_ret
        exact ⟨by rw [decide_eq_true he]; rfl, (by repeat (first | with_reducible exact Gr.refl _ | with_reducible assumption | with_reducible apply Gr.alloc | with_reducible apply Gr.drewN | with_reducible apply Gr.drew | with_reducible apply Gr.grow | (with_reducible refine Gr.trans ?_ (by assumption))))⟩
  · have hne : decide (la = lb) = false := decide_eq_false fun h => hl (by rw [h])
    have hz : ((la.length : Int) == (lb.length : Int)) = false := by simp; omega
    clear ha hb
    go_enter Tryz.func15, Tryz.ntmps15
    go_wp2
    go_ret
    exact ⟨by rw [hne]; rfl, (by repeat (first | with_reducible exact Gr.refl _ | with_reducible assumption | with_reducible apply Gr.alloc | with_reducible apply Gr.drewN | with_reducible apply Gr.drew | with_reducible apply Gr.grow | (with_reducible refine Gr.trans ?_ (by assumption))))⟩
end Go.Proofs.YtahichjiphjapaaGreatDoor

/-
  What only reads, two lists: SamePairs, SameInts; PairLess, order.Pair, Has.
-/
namespace Go.Proofs.YtahichjiphjapaaGreatDoor
set_option linter.unusedSimpArgs false
set_option linter.unusedVariables false
open Go.RowKit Go.Sort Go.Lib Go.Shelf

theorem less_is {a b c d : Int} {v : Bool} (h : ltH (a, b) (c, d) = v) (w : World) : Calls Tryz.prog 79 #[.agg #[.int .i64 a, .int .i64 b], .agg #[.int .i64 c, .int .i64 d]] w fun e w' => e = .returned (.bool v) ∧ Gr w w' := by
  subst h
  exact less_call a b c d w
theorem rless_is {a b c d : Int} {v : Bool} (h : ltH (a, b) (c, d) = v) (w : World) : Calls Tryz.prog 37 #[.agg #[.int .i64 a, .int .i64 b], .agg #[.int .i64 c, .int .i64 d]] w fun e w' => e = .returned (.bool v) ∧ Gr w w' := by
  subst h
  exact rless_call a b c d w

theorem and_ne {a b c d : Int} (h : ¬ ((a, b) : Hd) = (c, d)) : (decide (a = c) && decide (b = d)) = false := by
  rw [← Bool.decide_and]
  exact decide_eq_false fun e => h (by rw [e.1, e.2])

set_option maxHeartbeats 1000000 in
/-- The reference's Has. -/
theorem has_call (l : List Hd) (v : Value) (a b : Int) (w : World) (hl : Sl encH w v l) : Calls Tryz.prog 22 #[v, .agg #[.int .i64 a, .int .i64 b]] w fun e w' => e = .returned (.bool (decide ((a, b) ∈ l))) ∧ Gr w w' := by
  obtain ⟨p, cap, rfl, h1, h2, h⟩ := hl
  have hbig : l.length ≤ 9223372036854775807 := by unfold maxLen at h2; omega
  have eq1 := eqH_run
  have gd1 := gdH_run
  have HL := Lib.hid h
  clear h h2
  go_enter Tryz.func22, Tryz.ntmps22
  go_wp2
  go_loopw [9] (fun i wr => ∃ k : Nat, k ≤ l.length ∧ i = .int .i64 k ∧ Gr (w.alloc (.cells #[.int .i64 a, .int .i64 b] 42)) wr ∧ ¬ (a, b) ∈ l.take k) (fun i _ => l.length - (intOf i).toNat)
  case atStart => exact ⟨0, Nat.zero_le _, rfl, (by repeat (first | with_reducible exact Gr.refl _ | with_reducible assumption | with_reducible apply Gr.alloc | with_reducible apply Gr.drewN | with_reducible apply Gr.drew | with_reducible apply Gr.grow | (with_reducible refine Gr.trans ?_ (by assumption)))), by simp⟩
  case round =>
    obtain ⟨k, hk, rfl, hg, ht⟩ := hrel
    have hb1 := hg.below
    by_cases hkn : k < l.length
    · obtain ⟨g, o, rfl, hg1, hg2⟩ := HL.out (by omega)
      obtain ⟨c1, c2⟩ := atH hg2 hkn
      have hgl : g < wr.heap.size := by have := hb1.size; simp at this; omega
      have hlw : w.heap.size < wr.heap.size := by have := hb1.size; simp at this; omega
      replace c1 : wr.cell? ⟨g, o + k * 2, none⟩ = _ := (hb1.cell (p := ⟨g, o + k * 2, none⟩) (by simp; omega)).trans ((by simp [World.cell?_alloc_past (w := w) _ g _ hg1]; exact c1))
      replace c2 : wr.cell? ⟨g, o + k * 2 + 1, none⟩ = _ := (hb1.cell (p := ⟨g, o + k * 2 + 1, none⟩) (by simp; omega)).trans ((by simp [World.cell?_alloc_past (w := w) _ g _ hg1]; exact c2))
      have d1 : wr.cell? ⟨w.heap.size, 0, none⟩ = some (.int .i64 a) := (hb1.cell (p := ⟨w.heap.size, 0, none⟩) (by simp)).trans (by simp)
      have d2 : wr.cell? ⟨w.heap.size, 1, none⟩ = some (.int .i64 b) := (hb1.cell (p := ⟨w.heap.size, 1, none⟩) (by simp)).trans (by simp)
      have et : l.take (k + 1) = l.take k ++ [l[k]!] := by rw [getElem!_pos l k hkn]; exact List.take_succ_eq_append_getElem hkn
      generalize hx : l[k]! = x at *
      obtain ⟨x1, x2⟩ := x
      dsimp only at c1 c2
      have hne0 : ¬ w.heap.size = wr.heap.size := by omega
      have HT := Lib.hid ht
      have HX := Lib.hid hx
      have ET := Lib.hid et
      clear ht hg2 hb1 hx et
      by_cases hxy : ((x1, x2) : Hd) = (a, b)
      · obtain ⟨rfl, rfl⟩ : x1 = a ∧ x2 = b := by simpa using hxy
        have hm : decide (((x1, x2) : Hd) ∈ l) = true := decide_eq_true (List.mem_of_mem_take (by rw [ET.out]; simp : ((x1, x2) : Hd) ∈ l.take (k + 1)))
        have HM := Lib.hid hm
        clear hm hxy
        go_wp2
        go_ret
        exact ⟨by rw [HM.out]; rfl, (by repeat (first | with_reducible exact Gr.refl _ | with_reducible assumption | with_reducible apply Gr.alloc | with_reducible apply Gr.drewN | with_reducible apply Gr.drew | with_reducible apply Gr.grow | (with_reducible refine Gr.trans ?_ (by assumption))))⟩
      · have e2 := and_ne hxy
        have hm : ¬ ((a, b) : Hd) ∈ l.take (k + 1) := by
          rw [ET.out]
          simp only [List.mem_append, List.mem_singleton, not_or]
          exact ⟨HT.out, fun e => hxy e.symm⟩
        have HM := Lib.hid hm
        clear hm hxy
        go_wp2
        go_roundw
        case measure => simp [intOf]; omega
        case rel => exact ⟨k + 1, by omega, by go_num, (by repeat (first | with_reducible exact Gr.refl _ | with_reducible assumption | with_reducible apply Gr.alloc | with_reducible apply Gr.drewN | with_reducible apply Gr.drew | with_reducible apply Gr.grow | (with_reducible refine Gr.trans ?_ (by assumption)))), HM.out⟩
    · have hkn' : k = l.length := by omega
      have hm : decide (((a, b) : Hd) ∈ l) = false := decide_eq_false (by rwa [hkn', List.take_length] at ht)
      have HM := Lib.hid hm
      clear hm ht
      go_wp2
      go_ret
      exact ⟨by rw [HM.out]; rfl, (by repeat (first | with_reducible exact Gr.refl _ | with_reducible assumption | with_reducible apply Gr.alloc | with_reducible apply Gr.drewN | with_reducible apply Gr.drew | with_reducible apply Gr.grow | (with_reducible refine Gr.trans ?_ (by assumption))))⟩

end Go.Proofs.YtahichjiphjapaaGreatDoor
