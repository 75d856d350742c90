import Derived.Test.YtlnncnbahmgpfaaDoorZ26
import Derived.Test.YtlnncnbahmgpfaaDoorZ3
import Derived.Test.YtlnncnbahmgpfaaDoorZ4
import Derived.Test.YtlnncnbahmgpfaaDoorZ27
import Derived.Test.YtlnncnbahmgpfaaDoorZ5

/-
  The walks of alive and QuadCells.
-/
namespace Go.Proofs.YtlnncnbahmgpfaaDoor
set_option linter.unusedSimpArgs false
set_option linter.unusedVariables false
open Go.RowKit Go.Sort Go.Lib Go.Shelf

section
variable {eR eN eF : TypeId × Value}
theorem alive_any (w : World) (hE : Er3 w eR eN eF) : Calls Tryd.prog 8 #[] w fun e w' => e = .returned (.bool true) ∧ RowKit.Below w.heap.size w w' := by
  have QO := Lib.hid (qOf_call 0 0 10 10 w hE)
  have h1 : cellE (0, 0, 10, 10) = (8, 128, 128) := by decide
  have h2 : errV eR eF (0, 0, 10, 10) = .nilIface := by
    have : errB (0, 0, 10, 10) = 0 := by decide
    unfold errV
    rw [if_pos this]
  rw [h1, h2] at QO
  have eQ := fun W => eqQ_run (8, 128, 128) (8, 128, 128) W
  have gd := gdQ_run
  unfold clV at eQ
  dsimp only at eQ
  clear h1 h2 hE
  go_enter Tryd.func8, Tryd.ntmps8
  go_wp2_with fail
  refine QO.out.mono ?_
  rintro e w1 ⟨rfl, hb1⟩
  have B1 := hb1
  go_wp2
  go_ret
  exact ⟨by simp, (by repeat (first | with_reducible exact Below.refl _ _ | with_reducible assumption | with_reducible apply Ba | with_reducible apply Bd | with_reducible apply Bn | with_reducible apply Bg | (with_reducible refine Bs ?_ (by first | (simp; done) | (simp; omega)) _) | (with_reducible refine Bt ?_ (by assumption)) | (with_reducible refine Bt ?_ (Gr.below (by assumption)))))⟩
set_option maxHeartbeats 4000000 in
set_option maxRecDepth 100000 in
theorem quadCells_walk (x1 x2 x3 x4 : Int) (W : World) {A : Nat → Addr} (hE : Errs W A) :
    Calls Tryd.prog 3 #[.agg #[.int .i64 x1, .int .i64 x2, .int .i64 x3, .int .i64 x4]] W fun e w' => e = .returned (.bool true) ∧ RowKit.Below W.heap.size W w' := by
  have HE := Lib.hid hE
  have AL := Lib.hid (fun w (hb : RowKit.Below W.heap.size W w) => alive_any w ((Er3.of hE).below hb))
  have QO := Lib.hid (fun w (hb : RowKit.Below W.heap.size W w) => qOf_call x1 x2 x3 x4 w ((Er3.of hE).below hb))
  have RO := Lib.hid (fun w => rOf_call x1 x2 x3 x4 w)
  have hc := err_cases (170, .pointer (some (A 0))) (170, .pointer (some (A 6))) (x1, x2, x3, x4)
  have hz : errB (x1, x2, x3, x4) = 0 → rightC (cellE (x1, x2, x3, x4)) = true ∧ (looseC (cellE (x1, x2, x3, x4))).1 ≤ x1 ∧ (looseC (cellE (x1, x2, x3, x4))).2.1 ≤ x2 ∧ x3 ≤ (looseC (cellE (x1, x2, x3, x4))).2.2.1 ∧ x4 ≤ (looseC (cellE (x1, x2, x3, x4))).2.2.2 := fun h => by
    obtain ⟨hR, hW⟩ := errB_zero.1 h
    have : cellE (x1, x2, x3, x4) = cellB (x1, x2, x3, x4) := by unfold cellE; rw [if_pos h]
    rw [this]
    exact ⟨cell_right hR hW, in_loose hR hW⟩
  clear hE
  generalize cellE (x1, x2, x3, x4) = c at *
  generalize errV (170, .pointer (some (A 0))) (170, .pointer (some (A 6))) (x1, x2, x3, x4) = ev at *
  generalize errB (x1, x2, x3, x4) = en at *
  obtain ⟨c1, c2, c3⟩ := c
  have nC := fun W => ne_of_eq (by kernel_rfl) (eqC_run (c1, c2, c3) (c1, c2, c3) W)
  have gd := gdC_run
  unfold clV at nC
  simp only [decide_true, Bool.not_true] at nC
  have hwl : ∀ {w : World}, W.heap.size < (W.alloc (.cells #[.int .i64 x1, .int .i64 x2, .int .i64 x3, .int .i64 x4] 23)).heap.size := by simp
  have bA := Ba (Below.refl _ W) (.cells #[.int .i64 x1, .int .i64 x2, .int .i64 x3, .int .i64 x4] 23)
  have HX := Lib.hid (cells4 (heap_alloc_new W (.cells #[.int .i64 x1, .int .i64 x2, .int .i64 x3, .int .i64 x4] 23)))
  have hsl : W.heap.size < (W.alloc (.cells #[.int .i64 x1, .int .i64 x2, .int .i64 x3, .int .i64 x4] 23)).heap.size := by simp
  clear hwl
  go_enter Tryd.func3, Tryd.ntmps3
  go_wp2_with fail
  refine (AL.out _ bA).mono ?_
  rintro e w1 ⟨rfl, hb1⟩
  have b1 := Bt bA hb1
  have y1 := Bc hb1 hsl HX.out.1
  have y2 := Bc hb1 hsl HX.out.2.1
  have y3 := Bc hb1 hsl HX.out.2.2.1
  have y4 := Bc hb1 hsl HX.out.2.2.2
  have hs1 := cell_lt y1
  have QO1 := Lib.hid (QO.out _ b1)
  have B1 := Lib.hid b1
  clear bA hb1 AL b1 hsl HX QO
  go_wp2_with fail
  refine QO1.out.mono ?_
  rintro e w2 ⟨rfl, hb2⟩
  replace y1 := Bc hb2 hs1 y1
  replace y2 := Bc hb2 hs1 y2
  replace y3 := Bc hb2 hs1 y3
  replace y4 := Bc hb2 hs1 y4
  have hs2 := cell_lt y1
  have HC2 := Lib.hid (cells3' (w := w2) (t := 26) (a1 := .int .i64 c1) (a2 := .int .i64 c2) (a3 := .int .i64 c3))
  have bB := Ba (Below.refl _ w2) (.cells #[.int .i64 c1, .int .i64 c2, .int .i64 c3] 26)
  have hs3 : w2.heap.size < (w2.alloc (.cells #[.int .i64 c1, .int .i64 c2, .int .i64 c3] 26)).heap.size := by simp
  have HY := Lib.hid (And.intro (Bc bB hs2 y1) (And.intro (Bc bB hs2 y2) (And.intro (Bc bB hs2 y3) (Bc bB hs2 y4))))
  have hsy := Bl bB hs2
  have B2 := Lib.hid (Bt (Bt B1.out hb2) bB)
  clear hb2 QO1 B1 hs1
  go_wp2_with fail
  refine (RO.out _).mono ?_
  rintro e w3 ⟨rfl, hb3⟩
  clear y1 y2 y3 y4 hs2 bB
  have y1 := Bc hb3 hsy HY.out.1
  have y2 := Bc hb3 hsy HY.out.2.1
  have y3 := Bc hb3 hsy HY.out.2.2.1
  have y4 := Bc hb3 hsy HY.out.2.2.2
  have d1 := Bc hb3 hs3 HC2.out.1
  have d2 := Bc hb3 hs3 HC2.out.2.1
  have d3 := Bc hb3 hs3 HC2.out.2.2
  have hs4 := cell_lt d1
  have hs5 := cell_lt y1
  have B3 := Lib.hid (Bt B2.out hb3)
  clear hb3 RO B2 HY HC2 hs3 hsy
  rcases hc with ⟨rfl, rfl⟩ | ⟨rfl, rfl⟩ | ⟨rfl, rfl⟩
  · obtain ⟨hr, l1, l2, l3, l4⟩ := hz rfl
    have QL := Lib.hid (fun w => qLoose_call c1 c2 c3 w hr)
    generalize looseC (c1, c2, c3) = lb at *
    obtain ⟨b1', b2', b3', b4'⟩ := lb
    dsimp only at l1 l2 l3 l4
    go_wp2_with fail
    refine (num_nil _).mono ?_
    rintro e w4 ⟨rfl, hb4⟩
    replace y1 := Bc hb4 (by first | (simp; omega) | omega) (Bc (Ba (Below.refl _ w3) (.cells #[.int .i64 c1, .int .i64 c2, .int .i64 c3] 31)) hs5 y1)
    replace y2 := Bc hb4 (by first | (simp; omega) | omega) (Bc (Ba (Below.refl _ w3) (.cells #[.int .i64 c1, .int .i64 c2, .int .i64 c3] 31)) hs5 y2)
    replace y3 := Bc hb4 (by first | (simp; omega) | omega) (Bc (Ba (Below.refl _ w3) (.cells #[.int .i64 c1, .int .i64 c2, .int .i64 c3] 31)) hs5 y3)
    replace y4 := Bc hb4 (by first | (simp; omega) | omega) (Bc (Ba (Below.refl _ w3) (.cells #[.int .i64 c1, .int .i64 c2, .int .i64 c3] 31)) hs5 y4)
    replace d1 := Bc hb4 (by first | (simp; omega) | omega) (Bc (Ba (Below.refl _ w3) (.cells #[.int .i64 c1, .int .i64 c2, .int .i64 c3] 31)) hs4 d1)
    replace d2 := Bc hb4 (by first | (simp; omega) | omega) (Bc (Ba (Below.refl _ w3) (.cells #[.int .i64 c1, .int .i64 c2, .int .i64 c3] 31)) hs4 d2)
    replace d3 := Bc hb4 (by first | (simp; omega) | omega) (Bc (Ba (Below.refl _ w3) (.cells #[.int .i64 c1, .int .i64 c2, .int .i64 c3] 31)) hs4 d3)
    have B4 := Lib.hid (Bt (Ba B3.out (.cells #[.int .i64 c1, .int .i64 c2, .int .i64 c3] 31)) hb4)
    have hs6 := cell_lt d1
    have hs7 := cell_lt y1
    clear hb4 hs4 hs5 B3
    go_wp2_with fail
    refine (QL.out _).mono ?_
    rintro e w5 ⟨rfl, hb5⟩
    replace y1 := Bc hb5 hs7 y1
    replace y2 := Bc hb5 hs7 y2
    replace y3 := Bc hb5 hs7 y3
    replace y4 := Bc hb5 hs7 y4
    have hs8 := cell_lt y1
    have B5 := Lib.hid (Ba (Bt B4.out hb5) (.cells #[.int .i64 b1', .int .i64 b2', .int .i64 b3', .int .i64 b4'] 23))
    clear hb5 d1 d2 d3 hs6 hs7 QL hz nC gd
    go_wp2
    go_ret
    exact ⟨by simp, B5.out⟩
  · have NU := Lib.hid (fun w (hb : RowKit.Below W.heap.size W w) => num_range (HE.out.below hb))
    go_wp2_with fail
    refine (NU.out _ (Ba B3.out _)).mono ?_
    rintro e w4 ⟨rfl, hb4⟩
    have B4 := Bt (Ba B3.out _) hb4
    go_wp2
    go_ret
    exact ⟨rfl, B4⟩
  · have NU := Lib.hid (fun w (hb : RowKit.Below W.heap.size W w) => num_form (HE.out.below hb))
    go_wp2_with fail
    refine (NU.out _ (Ba B3.out _)).mono ?_
    rintro e w4 ⟨rfl, hb4⟩
    have B4 := Bt (Ba B3.out _) hb4
    go_wp2
    go_ret
    exact ⟨rfl, B4⟩
end
end Go.Proofs.YtlnncnbahmgpfaaDoor
