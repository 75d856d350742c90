/-
  The order of entries, as the code reckons it (cmp.Or over cmp.Compare); entries compared; the library's sort over entries.
-/
import Derived.Test.YtaceahjomhgccaaDoorHm10
import Derived.Laws.StructEq
import Derived.Shelf.SlSortCmp.QuietGrown
namespace Go.Proofs.YtaceahjomhgccaaDoor
set_option linter.unusedSimpArgs false
set_option linter.unusedVariables false
open Go.RowKit Go.Sort Go.Lib Go.Shelf

theorem isNaN_any (x : Int) (w : World) : Calls Tryd.prog 42 #[.int .i64 x] w fun e w' => e = .returned (.bool false) ∧ w' = w := by
  go_enter Tryd.func42, Tryd.ntmps42
  go_wp2
  go_ret
  exact ⟨by simp, rfl⟩

set_option maxHeartbeats 1000000 in
theorem compare_any (x y : Int) (w : World) : Calls Tryd.prog 31 #[.int .i64 x, .int .i64 y] w fun e w' => e = .returned (.int .i64 (Lib.compareInt x y)) ∧ w' = w := by
  go_enter Tryd.func31, Tryd.ntmps31
  go_wp2_with (go_at_call 42; refine (isNaN_any _ _).mono ?_; rintro e w' ⟨rfl, hw⟩; rw [hw])
  all_goals (go_ret; refine ⟨?_, rfl⟩; unfold Lib.compareInt; (repeat' split) <;> first | rfl | (exfalso; omega))

set_option maxHeartbeats 1000000 in
theorem or_any (x y : Int) (b : Nat) (w : World) (hx : w.cell? ⟨b, 0, none⟩ = some (.int .i64 x)) (hy : w.cell? ⟨b, 1, none⟩ = some (.int .i64 y)) : Calls Tryd.prog 30 #[.slice (some ⟨b, 0, none⟩) 2 2] w fun e w' => e = .returned (.int .i64 (orI x y)) ∧ w' = w := by
  go_enter Tryd.func30, Tryd.ntmps30
  go_wp2
  go_loopw [8] (fun i wr => wr = w ∧ (i = .int .i64 0 ∨ (i = .int .i64 1 ∧ x = 0) ∨ (i = .int .i64 2 ∧ x = 0 ∧ y = 0))) (fun i _ => 2 - (intOf i).toNat)
  case atStart => exact ⟨by trivial, .inl rfl⟩
  case round =>
    obtain ⟨rfl, rfl | ⟨rfl, h0⟩ | ⟨rfl, h0, h1⟩⟩ := hrel
    · by_cases h : x = 0
      · go_wp2
        go_roundw
        case measure => simp [intOf]
        case rel => exact ⟨by trivial, .inr (.inl ⟨by go_num, h⟩)⟩
      · go_wp2
        go_ret
        exact ⟨by simp [orI, h], rfl⟩
    · by_cases h : y = 0
      · go_wp2
        go_roundw
        case measure => simp [intOf]
        case rel => exact ⟨by trivial, .inr (.inr ⟨by go_num, h0, h⟩)⟩
      · go_wp2
        go_ret
        exact ⟨by simp [orI, h0], rfl⟩
    · go_wp2
      go_ret
      exact ⟨by simp [orI, h0, h1], rfl⟩

/-- The slice of two that a call of cmp.Or has just built. -/
theorem or_new (x y : Int) (b : Nat) (w : World) (t : TypeId) (hb : b = w.heap.size) : Calls Tryd.prog 30 #[.slice (some ⟨b, 0, none⟩) 2 2] (w.alloc (.cells #[.int .i64 x, .int .i64 y] t)).drew fun e w' => e = .returned (.int .i64 (orI x y)) ∧ w' = (w.alloc (.cells #[.int .i64 x, .int .i64 y] t)).drew := by
  subst hb
  exact or_any x y _ _ (by simp) (by simp)

set_option maxHeartbeats 400000 in
set_option maxRecDepth 100000 in
/-- heap.compare: by Index, and of one Index by Gen. -/
theorem cmpE_any (x y : Hd) (w : World) : Calls Tryd.prog 23 #[.agg #[.int .i64 x.1, .int .i64 x.2], .agg #[.int .i64 y.1, .int .i64 y.2]] w fun e w' => e = .returned (.int .i64 (cmpH x y)) ∧ Gr w w' := by
  obtain ⟨x1, x2⟩ := x
  obtain ⟨y1, y2⟩ := y
  unfold cmpH
  dsimp only
  go_enter Tryd.func23, Tryd.ntmps23
  go_wp2_with fail
  go_region_held3 (fun w' => Gr ((w.alloc (.cells #[.int .i64 x1, .int .i64 x2] 35)).alloc (.cells #[.int .i64 y1, .int .i64 y2] 35)) w' ∧ ∀ b_1 o, b_1 < ((w.alloc (.cells #[.int .i64 x1, .int .i64 x2] 35)).alloc (.cells #[.int .i64 y1, .int .i64 y2] 35)).heap.size → w'.cell? ⟨b_1, o, none⟩ = ((w.alloc (.cells #[.int .i64 x1, .int .i64 x2] 35)).alloc (.cells #[.int .i64 y1, .int .i64 y2] 35)).cell? ⟨b_1, o, none⟩) (first | exact gkeep0 _ | exact gkeepG (by assumption) hg1 | exact gkeepA (by assumption) _ | assumption)
    (first
      | (go_at_call 31; refine (compare_any _ _ _).mono ?_; rintro e w1 ⟨rfl, rfl⟩)
      | (go_at_call 30; refine (or_new (Lib.compareInt x1 y1) (Lib.compareInt x2 y2) _ _ _ (by simp)).mono ?_; rintro e w1 ⟨rfl, rfl⟩))
  go_wp2
  go_ret
  exact ⟨rfl, (by repeat (first | with_reducible exact Gr.refl _ | with_reducible assumption | with_reducible apply Gr.alloc | with_reducible apply Gr.drewN | with_reducible apply Gr.drew | with_reducible apply Gr.grow | (with_reducible refine Gr.trans ?_ (by assumption))))⟩

theorem cmpE_call (a b c d : Int) (w : World) : Calls Tryd.prog 23 #[.agg #[.int .i64 a, .int .i64 b], .agg #[.int .i64 c, .int .i64 d]] w fun e w' => e = .returned (.int .i64 (cmpH (a, b) (c, d))) ∧ Gr w w' := cmpE_any (a, b) (c, d) w

theorem eqH_run (x1 x2 y1 y2 : Int) (w : World) : Sem.run Tryd.prog (binOp .eql 35 (.agg #[.int .i64 x1, .int .i64 x2]) (.agg #[.int .i64 y1, .int .i64 y2])) w = .ok (.bool (decide ((x1, x2) = (y1, y2)))) w := by
  have u3 := Tryd.underlying3
  have a3 := Tryd.isAgg3
  have z3 := Tryd.sizeOf3
  have hS : Tryd.prog.underlying 35 = some (.struct (Tryd.prog.fieldsOf 35)) := by kernel_rfl
  have hp : Tryd.prog.stoodInHeld 35 = false := by kernel_rfl
  rw [run_eql_struct, show (10000 : Nat) = 9999 + 1 from rfl, run_equalIn_agg w 9999 35 _ _ hS hp]
  simp only [Program.fieldsOf, Tryd.underlying35]
  go_simp
  by_cases h1 : x1 = y1 <;> by_cases h2 : x2 = y2 <;> simp [h1, h2]

theorem neH_run (x1 x2 y1 y2 : Int) (w : World) : Sem.run Tryd.prog (binOp .neq 35 (.agg #[.int .i64 x1, .int .i64 x2]) (.agg #[.int .i64 y1, .int .i64 y2])) w = .ok (.bool (!decide ((x1, x2) = (y1, y2)))) w := by
  have h := eqH_run x1 x2 y1 y2 w
  rw [run_eql_struct] at h
  rw [run_neq_struct]
  cases hr : (Op.equalIn 10000 35 (.agg #[.int .i64 x1, .int .i64 x2]) (.agg #[.int .i64 y1, .int .i64 y2])).run Tryd.prog w with
  | ok b w' =>
    rw [hr] at h
    simp only [Result.andThen_ok, Result.ok.injEq, Value.bool.injEq] at h ⊢
    obtain ⟨rfl, rfl⟩ := h
    exact ⟨rfl, rfl⟩
  | halt x w' => rw [hr] at h; simp [Result.andThen] at h

theorem gdH_run (op : BinOp) (a b : Operand) (xs ys : Array Value) (w : World) : Sem.run Tryd.prog (eqGuard op 35 a b (.agg xs) (.agg ys)) w = .ok () w :=
  run_eqGuard_agg w op 35 a b xs ys (by kernel_rfl)

end Go.Proofs.YtaceahjomhgccaaDoor
