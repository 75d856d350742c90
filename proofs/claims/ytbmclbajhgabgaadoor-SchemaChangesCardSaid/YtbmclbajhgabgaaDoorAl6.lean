/-
  'alive' of the statements on components: the chapter's example.
-/
import Derived.Test.YtbmclbajhgabgaaDoorVr
import Derived.Test.YtbmclbajhgabgaaDoorVo
namespace Go.Proofs.YtbmclbajhgabgaaDoor
set_option linter.unusedSimpArgs false
set_option linter.unusedVariables false
open Go.RowKit Go.Sort Go.Lib Go.Shelf

set_option maxHeartbeats 2000000 in
set_option maxRecDepth 100000 in
theorem alive_any (A : Nat → Addr) (w : World) (hE : Er w A) : Calls Tryd.prog 10 #[] w fun e w' => e = .returned (.bool true) ∧ RowKit.Below w.heap.size w w' := by
  have HE := Lib.hid hE
  have S := Lib.hid (sl_lit (enc := encV) (w := w) (cs := #[.int .i64 1, .int .i64 1, .int .i64 1, .int .i64 0, .int .i64 3, .int .i64 4]) (t := 23) (b := w.heap.size) [(1, 1, 1), (0, 3, 4)] rfl rfl (by unfold maxLen; simp))
  have C := Lib.hid (row_call [(1, 1, 1), (0, 3, 4)] _ A _ S.out (hE.below (Ba (Below.refl _ w) _)) (by simp))
  have e1 : rowN [(1, 1, 1), (0, 3, 4)] = 0 := by decide
  have e2 : rowL [(1, 1, 1), (0, 3, 4)] = [(0, 3, 4), (1, 1, 1)] := by decide
  rw [e1, e2, errV_no] at C
  clear hE e1 e2
  go_enter Tryd.func10, Tryd.ntmps10
  go_wp2_with fail
  refine C.out.mono ?_
  rintro e w1 ⟨⟨v1, rfl, hs1⟩, hb1⟩
  obtain ⟨p, cap, rfl, _, _, _⟩ := id hs1
  have D := Lib.hid (box_call [(0, 3, 4), (1, 1, 1)] _ w1 hs1 (by decide))
  have e3 : boxA [(0, 3, 4), (1, 1, 1)] = .agg #[.int .i64 2, .int .i64 3, .int .i64 4, .int .i64 5] := by
    have : boxV [(0, 3, 4), (1, 1, 1)] = some (2, 3, 4, 5) := by decide
    exact boxA_yes this
  have e4 : boxB [(0, 3, 4), (1, 1, 1)] = true := by decide
  rw [e3, e4] at D
  have B1 := Lib.hid (Bt (Ba (Below.refl _ w) _) hb1)
  clear hs1 hb1 e3 e4 C S HE
  go_wp2_with fail
  refine D.out.mono ?_
  rintro e w2 ⟨rfl, hb2⟩
  have B2 := Lib.hid (Bt B1.out hb2)
  clear hb2
  go_wp2
  go_ret
  exact ⟨rfl, by have := B2.out; exact (by repeat (first | with_reducible exact Below.refl _ _ | with_reducible assumption | with_reducible apply Ba | with_reducible apply Bd | with_reducible apply Bn | with_reducible apply Bg | (with_reducible refine Bs ?_ (by first | (simp; done) | (simp; omega)) _) | (with_reducible refine Bt ?_ (by assumption)) | (with_reducible refine Bt ?_ (Gr.below (by assumption)))))⟩
end Go.Proofs.YtbmclbajhgabgaaDoor
