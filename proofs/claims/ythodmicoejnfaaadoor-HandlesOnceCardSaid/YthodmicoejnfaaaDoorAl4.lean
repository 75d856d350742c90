/-
  'alive' of the statements on handles: the chapter's example.
-/
import Derived.Test.YthodmicoejnfaaaDoorSt
namespace Go.Proofs.YthodmicoejnfaaaDoor
set_option linter.unusedSimpArgs false
set_option linter.unusedVariables false
open Go.RowKit Go.Sort Go.Lib Go.Shelf

def NoX : Nat → Prop := fun _ => False
theorem noX (w : World) : ∀ b, NoX b → b < w.heap.size := fun _ h => h.elim

set_option maxHeartbeats 2000000 in
set_option maxRecDepth 100000 in
theorem alive_any (w : World) : Calls Tryd.prog 8 #[] w fun e w' => e = .returned (.bool true) ∧ RowKit.Below w.heap.size w w' := by
  have t1 : takeP [] [] = some ((0, 1), [(1, true)], []) := by decide
  have t2 : takeP [(1, true)] [] = some ((1, 1), [(1, true), (1, true)], []) := by decide
  have l3 : livesP [(1, true), (1, true)] (0, 1) = true := by decide
  have f3 : freeS [(1, true), (1, true)] (0, 1) = [(2, false), (1, true)] := by decide
  have g3 : freeF [] (0, 1) = [0] := by decide
  have t4 : takeP [(2, false), (1, true)] [0] = some ((0, 2), [(2, true), (1, true)], []) := by decide
  have r1 := right_take right_new t1
  have r2 := right_take r1 t2
  have r3 := right_free r2 l3
  rw [f3, g3] at r3
  have C0 := Lib.hid (newX w.heap.size NoX w (Nat.le_refl _) (noX w))
  have C1 := Lib.hid (fun W pa (h : PoolX 67 w.heap.size NoX W pa [] []) => takeX h right_new t1)
  have C2 := Lib.hid (fun W pa (h : PoolX 67 w.heap.size NoX W pa [(1, true)] []) => takeX h r1 t2)
  have C3 := Lib.hid (fun W pa (h : PoolX 67 w.heap.size NoX W pa [(1, true), (1, true)] []) => freeX h r2 0 1 l3)
  rw [f3, g3] at C3
  have C4 := Lib.hid (fun W pa (h : PoolX 67 w.heap.size NoX W pa [(2, false), (1, true)] [0]) => takeX h r3 t4)
  clear t1 t2 l3 f3 g3 t4 r1 r2 r3
  have eq1 := eqH_run
  have gd1 := gdH_run
  go_enter Tryd.func8, Tryd.ntmps8
  go_wp2_with fail
  refine C0.out.mono ?_
  rintro e w1 ⟨pa, rfl, hp1, hb1⟩
  have B1 := Lib.hid hb1
  have P1 := Lib.hid hp1
  clear hp1 hb1
  go_wp2_with fail
  refine (C1.out _ _ P1.out).mono ?_
  rintro e w2 ⟨rfl, hp2, hk2⟩
  have P2 := Lib.hid (hp2.below (Ba (Below.refl _ w2) (.cells #[.int .i64 0, .int .i64 1] 40)))
  have B2 := Lib.hid (Ba (B1.out.trans (hk2.below B1.out.size)) (.cells #[.int .i64 0, .int .i64 1] 40))
  have A2 := Lib.hid (heap_alloc_new w2 (.cells #[.int .i64 0, .int .i64 1] 40))
  clear hp2 hk2
  go_wp2_with fail
  refine (C2.out _ _ P2.out).mono ?_
  rintro e w3 ⟨rfl, hp3, hk3⟩
  have P3 := Lib.hid (hp3.below (Ba (Below.refl _ w3) (.cells #[.int .i64 1, .int .i64 1] 40)))
  have B3 := Lib.hid (Ba (B2.out.trans (hk3.below B2.out.size)) (.cells #[.int .i64 1, .int .i64 1] 40))
  have A3 := Lib.hid (blk_below (hk3.cells A2.out (by decide)) (Ba (Below.refl _ w3) (.cells #[.int .i64 1, .int .i64 1] 40)))
  have D3 := Lib.hid (heap_alloc_new w3 (.cells #[.int .i64 1, .int .i64 1] 40))
  clear hp3 hk3
  obtain ⟨x0, x1, _, _⟩ := two_cells A3.out
  go_wp2_with fail
  refine (C3.out _ _ P3.out).mono ?_
  rintro e w4 ⟨rfl, hp4, hk4⟩
  have P4 := Lib.hid hp4
  have B4 := Lib.hid (B3.out.trans (hk4.below B3.out.size))
  have A4 := Lib.hid (hk4.cells A3.out (by decide))
  have D4 := Lib.hid (hk4.cells D3.out (by decide))
  clear hp4 hk4 x0 x1
  go_wp2_with fail
  refine (C4.out _ _ P4.out).mono ?_
  rintro e w5 ⟨rfl, hp5, hk5⟩
  have B5 := Lib.hid (Ba (B4.out.trans (hk5.below B4.out.size)) (.cells #[.int .i64 0, .int .i64 2] 40))
  have A5 := Lib.hid (blk_below (hk5.cells A4.out (by decide)) (Ba (Below.refl _ w5) (.cells #[.int .i64 0, .int .i64 2] 40)))
  have D5 := Lib.hid (blk_below (hk5.cells D4.out (by decide)) (Ba (Below.refl _ w5) (.cells #[.int .i64 0, .int .i64 2] 40)))
  clear hp5 hk5
  obtain ⟨x0, x1, _, _⟩ := two_cells A5.out
  obtain ⟨y0, y1, _, _⟩ := two_cells D5.out
  go_wp2
  go_ret
  exact ⟨rfl, B5.out⟩
end Go.Proofs.YthodmicoejnfaaaDoor
