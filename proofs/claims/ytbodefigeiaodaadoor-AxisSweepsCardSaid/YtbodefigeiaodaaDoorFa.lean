/-
  The comparisons: cmp.Compare, cmp.Or, order.compare, order.comparePairs, order.Less, and the reference's Less and PairLess.
-/
import Derived.Test.YtbodefigeiaodaaDoorAp11
namespace Go.Proofs.YtbodefigeiaodaaDoor
set_option linter.unusedSimpArgs false
set_option linter.unusedVariables false
open Go.RowKit Go.Sort Go.Lib Go.Shelf


theorem isNaN_any (x : Int) (w : World) : Calls Tryd.prog 92 #[.int .i64 x] w fun e w' => e = .returned (.bool false) ∧ w' = w := by
  go_enter Tryd.func92, Tryd.ntmps92
  go_wp2
  go_ret
  exact ⟨by simp, rfl⟩

set_option maxHeartbeats 1000000 in
theorem compare_any (x y : Int) (w : World) : Calls Tryd.prog 81 #[.int .i64 x, .int .i64 y] w fun e w' => e = .returned (.int .i64 (Lib.compareInt x y)) ∧ w' = w := by
  go_enter Tryd.func81, Tryd.ntmps81
  go_wp2_with (go_at_call 92; refine (isNaN_any _ _).mono ?_; rintro e w' ⟨rfl, hw⟩; rw [hw])
  all_goals (go_ret; refine ⟨?_, rfl⟩; unfold Lib.compareInt; (repeat' split) <;> first | rfl | (exfalso; omega))

set_option maxHeartbeats 1000000 in
theorem or_any (x y : Int) (b : Nat) (w : World) (hx : w.cell? ⟨b, 0, none⟩ = some (.int .i64 x)) (hy : w.cell? ⟨b, 1, none⟩ = some (.int .i64 y)) : Calls Tryd.prog 75 #[.slice (some ⟨b, 0, none⟩) 2 2] w fun e w' => e = .returned (.int .i64 (orI x y)) ∧ w' = w := by
  go_enter Tryd.func75, Tryd.ntmps75
  go_wp2
  go_loopw [8] (fun i wr => wr = w ∧ (i = .int .i64 0 ∨ (i = .int .i64 1 ∧ x = 0) ∨ (i = .int .i64 2 ∧ x = 0 ∧ y = 0))) (fun i _ => 2 - (intOf i).toNat)
  case atStart => exact ⟨by trivial, .inl rfl⟩
  case round =>
    obtain ⟨rfl, rfl | ⟨rfl, h0⟩ | ⟨rfl, h0, h1⟩⟩ := hrel
    · by_cases h : x = 0
      · go_wp2
        go_roundw
        case measure => simp [intOf]
        case rel => exact ⟨by trivial, .inr (.inl ⟨by go_num, h⟩)⟩
      · go_wp2
        go_ret
        exact ⟨by simp [orI, h], rfl⟩
    · by_cases h : y = 0
      · go_wp2
        go_roundw
        case measure => simp [intOf]
        case rel => exact ⟨by trivial, .inr (.inr ⟨by go_num, h0, h⟩)⟩
      · go_wp2
        go_ret
        exact ⟨by simp [orI, h0], rfl⟩
    · go_wp2
      go_ret
      exact ⟨by simp [orI, h0, h1], rfl⟩

/-- The slice of two that a call of cmp.Or has just built. -/
theorem or_new (x y : Int) (b : Nat) (w : World) (t : TypeId) (hb : b = w.heap.size) : Calls Tryd.prog 75 #[.slice (some ⟨b, 0, none⟩) 2 2] (w.alloc (.cells #[.int .i64 x, .int .i64 y] t)).drew fun e w' => e = .returned (.int .i64 (orI x y)) ∧ w' = (w.alloc (.cells #[.int .i64 x, .int .i64 y] t)).drew := by
  subst hb
  exact or_any x y _ _ (by simp) (by simp)

set_option maxHeartbeats 400000 in
set_option maxRecDepth 100000 in
/-- order.compare: by Index, and of one Index by Gen. -/
theorem cmpH_any (x y : Hd) (w : World) : Calls Tryd.prog 76 #[.agg #[.int .i64 x.1, .int .i64 x.2], .agg #[.int .i64 y.1, .int .i64 y.2]] w fun e w' => e = .returned (.int .i64 (cmpH x y)) ∧ Gr w w' := by
  obtain ⟨x1, x2⟩ := x
  obtain ⟨y1, y2⟩ := y
  unfold cmpH
  dsimp only
  go_enter Tryd.func76, Tryd.ntmps76
  go_wp2_with fail
  go_region_held3 (fun w' => Gr ((w.alloc (.cells #[.int .i64 x1, .int .i64 x2] 28)).alloc (.cells #[.int .i64 y1, .int .i64 y2] 28)) w' ∧ ∀ b_1 o, b_1 < ((w.alloc (.cells #[.int .i64 x1, .int .i64 x2] 28)).alloc (.cells #[.int .i64 y1, .int .i64 y2] 28)).heap.size → w'.cell? ⟨b_1, o, none⟩ = ((w.alloc (.cells #[.int .i64 x1, .int .i64 x2] 28)).alloc (.cells #[.int .i64 y1, .int .i64 y2] 28)).cell? ⟨b_1, o, none⟩) (first | exact gkeep0 _ | exact gkeepG (by assumption) hg1 | exact gkeepA (by assumption) _ | assumption)
    (first
      | (go_at_call 81; refine (compare_any _ _ _).mono ?_; rintro e w1 ⟨rfl, rfl⟩)
      | (go_at_call 75; refine (or_new (Lib.compareInt x1 y1) (Lib.compareInt x2 y2) _ _ _ (by simp)).mono ?_; rintro e w1 ⟨rfl, rfl⟩))
  go_wp2
  go_ret
  exact ⟨rfl, (by repeat (first | with_reducible exact Gr.refl _ | with_reducible assumption | with_reducible apply Gr.alloc | with_reducible apply Gr.drewN | with_reducible apply Gr.drew | with_reducible apply Gr.grow | (with_reducible refine Gr.trans ?_ (by assumption))))⟩
theorem cmpH_call (a b c d : Int) (w : World) : Calls Tryd.prog 76 #[.agg #[.int .i64 a, .int .i64 b], .agg #[.int .i64 c, .int .i64 d]] w fun e w' => e = .returned (.int .i64 (cmpH (a, b) (c, d))) ∧ Gr w w' := cmpH_any (a, b) (c, d) w

theorem or_new0 (x y : Int) (b : Nat) (w : World) (t : TypeId) (hb : b = w.heap.size) : Calls Tryd.prog 75 #[.slice (some ⟨b, 0, none⟩) 2 2] (w.alloc (.cells #[.int .i64 x, .int .i64 y] t)) fun e w' => e = .returned (.int .i64 (orI x y)) ∧ w' = w.alloc (.cells #[.int .i64 x, .int .i64 y] t) := by
  subst hb
  exact or_any x y _ _ (by simp) (by simp)

set_option maxHeartbeats 400000 in
set_option maxRecDepth 100000 in
/-- order.comparePairs: by A, and of one A by B. -/
theorem cmpP_call (a b c d p q r s : Int) (w : World) : Calls Tryd.prog 64 #[.agg #[.int .i64 a, .int .i64 b, .int .i64 c, .int .i64 d], .agg #[.int .i64 p, .int .i64 q, .int .i64 r, .int .i64 s]] w fun e w' => e = .returned (.int .i64 (cmpP ((a, b), (c, d)) ((p, q), (r, s)))) ∧ Gr w w' := by
  unfold cmpP
  dsimp only
  go_enter Tryd.func64, Tryd.ntmps64
  go_wp2_with fail
  go_region_held3 (fun w' => Gr ((w.alloc (.cells #[.int .i64 a, .int .i64 b, .int .i64 c, .int .i64 d] 68)).alloc (.cells #[.int .i64 p, .int .i64 q, .int .i64 r, .int .i64 s] 68)) w' ∧ ∀ b_1 o, b_1 < ((w.alloc (.cells #[.int .i64 a, .int .i64 b, .int .i64 c, .int .i64 d] 68)).alloc (.cells #[.int .i64 p, .int .i64 q, .int .i64 r, .int .i64 s] 68)).heap.size → w'.cell? ⟨b_1, o, none⟩ = ((w.alloc (.cells #[.int .i64 a, .int .i64 b, .int .i64 c, .int .i64 d] 68)).alloc (.cells #[.int .i64 p, .int .i64 q, .int .i64 r, .int .i64 s] 68)).cell? ⟨b_1, o, none⟩) (first | exact gkeep0 _ | exact gkeepG (by assumption) hg1 | exact gkeepA (by assumption) _ | assumption)
    (first
      | (go_at_call 76; refine (cmpH_call _ _ _ _ _).mono ?_; rintro e w1 ⟨rfl, hg1⟩)
      | (go_at_call 75; refine (or_new0 _ _ _ _ _ rfl).mono ?_; rintro e w1 ⟨rfl, rfl⟩))
  all_goals (go_wp2; go_ret; exact ⟨rfl, (by repeat (first | with_reducible exact Gr.refl _ | with_reducible assumption | with_reducible apply Gr.alloc | with_reducible apply Gr.drewN | with_reducible apply Gr.drew | with_reducible apply Gr.grow | (with_reducible refine Gr.trans ?_ (by assumption))))⟩)

set_option maxHeartbeats 400000 in
/-- order.Less. -/
theorem less_call (a b c d : Int) (w : World) : Calls Tryd.prog 70 #[.agg #[.int .i64 a, .int .i64 b], .agg #[.int .i64 c, .int .i64 d]] w fun e w' => e = .returned (.bool (ltH (a, b) (c, d))) ∧ Gr w w' := by
  go_enter Tryd.func70, Tryd.ntmps70
  go_wp2_with (go_at_call 76; refine (cmpH_call _ _ _ _ _).mono ?_; rintro e w1 ⟨rfl, hg1⟩)
  go_ret
  exact ⟨ret_bool (by rw [← cmpH_lt]), (by repeat (first | with_reducible exact Gr.refl _ | with_reducible assumption | with_reducible apply Gr.alloc | with_reducible apply Gr.drewN | with_reducible apply Gr.drew | with_reducible apply Gr.grow | (with_reducible refine Gr.trans ?_ (by assumption))))⟩

set_option maxHeartbeats 400000 in
/-- The reference's Less. -/
theorem rless_call (a b c d : Int) (w : World) : Calls Tryd.prog 62 #[.agg #[.int .i64 a, .int .i64 b], .agg #[.int .i64 c, .int .i64 d]] w fun e w' => e = .returned (.bool (ltH (a, b) (c, d))) ∧ Gr w w' := by
  by_cases h1 : a < c
  · have e : ltH (a, b) (c, d) = true := by simp [ltH_eq, h1]
    rw [e]
    go_enter Tryd.func62, Tryd.ntmps62
    go_wp2
    go_ret
    exact ⟨rfl, (by repeat (first | with_reducible exact Gr.refl _ | with_reducible assumption | with_reducible apply Gr.alloc | with_reducible apply Gr.drewN | with_reducible apply Gr.drew | with_reducible apply Gr.grow | (with_reducible refine Gr.trans ?_ (by assumption))))⟩
  · by_cases h2 : a = c
    · have e : ltH (a, b) (c, d) = decide (b < d) := by simp [ltH_eq, h2]
      rw [e]
      subst h2
      go_enter Tryd.func62, Tryd.ntmps62
      go_wp2
      go_ret
      exact ⟨by simp, (by repeat (first | with_reducible exact Gr.refl _ | with_reducible assumption | with_reducible apply Gr.alloc | with_reducible apply Gr.drewN | with_reducible apply Gr.drew | with_reducible apply Gr.grow | (with_reducible refine Gr.trans ?_ (by assumption))))⟩
    · have e : ltH (a, b) (c, d) = false := by simp [ltH_eq, h1, h2]
      rw [e]
      go_enter Tryd.func62, Tryd.ntmps62
      go_wp2
      go_ret
      exact ⟨rfl, (by repeat (first | with_reducible exact Gr.refl _ | with_reducible assumption | with_reducible apply Gr.alloc | with_reducible apply Gr.drewN | with_reducible apply Gr.drew | with_reducible apply Gr.grow | (with_reducible refine Gr.trans ?_ (by assumption))))⟩
end Go.Proofs.YtbodefigeiaodaaDoor
