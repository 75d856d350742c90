/-
  paddocknum.SameInts; the laws' example (alive); lists and structs compared.
-/
import Derived.Test.YtmeinjkpbijaeaaTa14
import Derived.Laws.StructEq
namespace Go.Proofs.Ytmeinjkpbijaeaa
set_option linter.unusedSimpArgs false
set_option linter.unusedVariables false
open Go.RowKit Go.Sort Go.Lib Go.Shelf

theorem at_alive : atG ⟨4, 3, 10, 0, 0⟩ (25, 9) = 2 := by decide
theorem und_alive : und ⟨4, 3, 10, 0, 0⟩ (5, 5, 10, 10) = [0, 1, 4, 5] := by decide
set_option maxHeartbeats 2000000 in
set_option maxRecDepth 100000 in
theorem alive_call (w : World) : Calls Try.prog 4 #[] w fun e w' => e = .returned (.bool true) ∧ RowKit.Below w.heap.size w w' := by
  have TC := Lib.hid (fun W' => tat_call ⟨4, 3, 10, 0, 0⟩ 25 9 W')
  have UC := Lib.hid (fun W' => tunder_call ⟨4, 3, 10, 0, 0⟩ (5, 5, 10, 10) W')
  rw [at_alive] at TC
  rw [und_alive] at UC
  rw [show decide ((0 : Int) ≤ 2) = true from by decide] at TC
  go_enter Try.func4, Try.ntmps4
  go_wp2_with fail
  refine (TC.out _).mono ?_
  rintro e w1 ⟨rfl, hb1⟩
  have A1 := Lib.hid hb1
  have k1 := blk_below (heap_alloc_new w (.cells #[.int .i64 4, .int .i64 3, .int .i64 10, .int .i64 0, .int .i64 0] 23)) hb1
  obtain ⟨x1, x2, x3, x4, x5⟩ := cells5 k1
  have hl := cell_lt x1
  clear hb1 k1
  go_wp2_with fail
  refine (UC.out _).mono ?_
  rintro e w2 ⟨v, rfl, ho, hb2⟩
  obtain ⟨p, cap, rfl, h1, h2, h3⟩ := row_val ho
  have A2 := Lib.hid (Bt A1.out hb2)
  have S2 := Lib.hid ((row_sl lenI ho rfl).below (Ba (Below.refl _ w2) (.cells #[.int .i64 0, .int .i64 1, .int .i64 4, .int .i64 5] 3)))
  have L2 := Lib.hid (sl_lit (enc := encI) (w := w2) (cs := #[.int .i64 0, .int .i64 1, .int .i64 4, .int .i64 5]) (t := 3) (b := w2.heap.size) [0, 1, 4, 5] rfl rfl (by unfold maxLen; simp))
  have SC := Lib.hid (sameInts_call [0, 1, 4, 5] [0, 1, 4, 5] _ _ _ S2.out L2.out)
  rw [show decide (([0, 1, 4, 5] : List Int) = [0, 1, 4, 5]) = true from by decide] at SC
  clear ho hb2 h1 h2 h3 S2 L2
  go_wp2_with fail
  refine SC.out.mono ?_
  rintro e w3 ⟨rfl, hg3⟩
  have B3 := Lib.hid (by have := A2.out; have := hg3.below; exact (by repeat (first | with_reducible exact Below.refl _ _ | with_reducible assumption | with_reducible apply Ba | with_reducible apply Bd | with_reducible apply Bn | with_reducible apply Bg | (with_reducible refine Bs ?_ (by first | (simp; done) | (simp; omega)) _) | (with_reducible refine Bt ?_ (by assumption)) | (with_reducible refine Bt ?_ (Gr.below (by assumption))))) : RowKit.Below w.heap.size w w3)
  clear hg3
  go_wp2
  go_ret
  exact ⟨rfl, B3.out⟩
end Go.Proofs.Ytmeinjkpbijaeaa
