/-
  TilesPlaces: the walk.
-/
import Derived.Test.YtmeinjkpbijaeaaDoorEq14
import Derived.Test.YtmeinjkpbijaeaaDoorMp14
namespace Go.Proofs.YtmeinjkpbijaeaaDoor
set_option linter.unusedSimpArgs false
set_option linter.unusedVariables false
open Go.RowKit Go.Sort Go.Lib Go.Shelf

set_option maxHeartbeats 8000000 in
set_option maxRecDepth 100000 in
theorem tilesPlaces_walk (g : Gd) (w : World) : Calls Tryd.prog 6 #[grV g] w fun e w' => e = .returned (.bool true) ∧ RowKit.Below w.heap.size w w' := by
  have AL := Lib.hid (fun W' => alive_call W')
  cases hg : grOk g
  · obtain ⟨W, H, S, X, Y⟩ := g
    have RC := Lib.hid (fun W' => tright_any W H S X Y W')
    rw [hg] at RC
    clear hg
    go_enter Tryd.func6, Tryd.ntmps6
    go_wp2_with fail
    refine (AL.out _).mono ?_
    rintro e w1 ⟨rfl, hb1⟩
    have k1 := blk_below (heap_alloc_new w (.cells #[.int .i64 W, .int .i64 H, .int .i64 S, .int .i64 X, .int .i64 Y] 23)) hb1
    obtain ⟨x1, x2, x3, x4, x5⟩ := cells5 k1
    have hl1 := cell_lt x1
    have B1 := Lib.hid (by exact (by repeat (first | with_reducible exact Below.refl _ _ | with_reducible assumption | with_reducible apply Ba | with_reducible apply Bd | with_reducible apply Bn | with_reducible apply Bg | (with_reducible refine Bs ?_ (by first | (simp; done) | (simp; omega)) _) | (with_reducible refine Bt ?_ (by assumption)) | (with_reducible refine Bt ?_ (Gr.below (by assumption))))) : RowKit.Below w.heap.size w w1)
    clear hb1 k1
    go_wp2_with fail
    refine (RC.out _).mono ?_
    rintro e w2 ⟨rfl, hb2⟩
    have B2 := Lib.hid (Bt B1.out hb2)
    clear hb2
    go_wp2
    go_ret
    exact ⟨rfl, B2.out⟩
  · have hn := ntl_cast hg
    have gk := grOk_iff.1 hg
    have PO := Lib.hid (fun (k : Nat) (hk : k < ntl g) W' => place_ok g k W' hg hk)
    have BD := Lib.hid (fun (k : Nat) (hk : k < ntl g) => (tl_bd hg hk).2)
    have AO := Lib.hid (fun (k : Nat) (hk : k < ntl g) (x y : Int) h1 h2 => at_own hg hk (p := (x, y)) h1 h2)
    have AB := Lib.hid (fun (k : Nat) (hk : k < ntl g) => at_before hg hk)
    have UT := Lib.hid (fun (k : Nat) (hk : k < ntl g) => und_tl hg hk)
    have AT := Lib.hid (fun x y W' => tat_call g x y W')
    have UC := Lib.hid (fun b W' => tunder_call g b W')
    unfold tlB at UT
    generalize tlX g = px at *
    generalize tlY g = py at *
    generalize atG g = ag at *
    generalize und g = ug at *
    generalize ntl g = n at *
    obtain ⟨W, H, S, X, Y⟩ := g
    dsimp only at *
    obtain ⟨hn1, hn2, hn3⟩ := hn
    have hN := hn1.symm
    have RC := Lib.hid (fun W' => tright_any W H S X Y W')
    rw [hg] at RC
    clear hg hn1
    obtain ⟨W0, hW0⟩ : ∃ W0, W0 = w.alloc (.cells #[.int .i64 W, .int .i64 H, .int .i64 S, .int .i64 X, .int .i64 Y] 23) := ⟨_, rfl⟩
    have B0 : Hid (RowKit.Below w.heap.size w W0) := Lib.hid (by rw [hW0]; exact (by repeat (first | with_reducible exact Below.refl _ _ | with_reducible assumption | with_reducible apply Ba | with_reducible apply Bd | with_reducible apply Bn | with_reducible apply Bg | (with_reducible refine Bs ?_ (by first | (simp; done) | (simp; omega)) _) | (with_reducible refine Bt ?_ (by assumption)) | (with_reducible refine Bt ?_ (Gr.below (by assumption))))))
    have G0 : Hid (GrAt W0 w.heap.size ⟨W, H, S, X, Y⟩) := Lib.hid (by rw [hW0]; exact heap_alloc_new w _)
    have HW0 := Lib.hid hW0
    clear hW0
    go_enter Tryd.func6, Tryd.ntmps6
    go_wp2_with fail
    rw [← HW0.out]
    refine (AL.out _).mono ?_
    rintro e w1 ⟨rfl, hb1⟩
    have A1 := Lib.hid hb1
    obtain ⟨x1, x2, x3, x4, x5⟩ := (G0.out.below hb1).cells
    have hl1 := cell_lt x1
    clear hb1
    go_wp2_with fail
    refine (RC.out _).mono ?_
    rintro e w2 ⟨rfl, hb2⟩
    have A2 := Lib.hid (Bt A1.out hb2)
    obtain ⟨y1, y2, y3, y4, y5⟩ := (G0.out.below A2.out).cells
    have hl2 := cell_lt y1
    clear hb2 x1 x2 x3 x4 x5 hl1 A1
    go_wp2_with fail
    clear y1 y2 y3 y4 y5 hl2
    go_loopw [23] (fun i wr => ∃ k : Nat, k ≤ n ∧ i = .int .i64 k ∧ Hid (RowKit.Below W0.heap.size W0 wr)) (fun i _ => n - (intOf i).toNat)
    case atStart => exact ⟨0, Nat.zero_le _, rfl, A2⟩
    case round =>
      obtain ⟨k, hk, rfl, hb⟩ := hrel
      have Gr := Lib.hid (G0.out.below hb.out)
      obtain ⟨x1, x2, x3, x4, x5⟩ := Gr.out.cells
      have hlr := cell_lt x1
      by_cases hkn : k < n
      · have hkz : (k : Int) < (n : Int) := by omega
        have P1 := Lib.hid (PO.out k hkn)
        obtain ⟨⟨b1, b2⟩, b3, b4⟩ := BD.out k hkn
        have T1 := Lib.hid (AO.out k hkn (px k) (py k) (by omega) (by omega))
        have T2 := Lib.hid (AO.out k hkn (px k + S - 1) (py k + S - 1) (by omega) (by omega))
        have T3 := Lib.hid (AB.out k hkn)
        have T4 := Lib.hid (UT.out k hkn)
        generalize px k = p at *
        generalize py k = q at *
        have C1 := Lib.hid (AT.out p q)
        have C2 := Lib.hid (AT.out (p + S - 1) (q + S - 1))
        have C3 := Lib.hid (AT.out (p - 1) q)
        have C4 := Lib.hid (UC.out (p, q, p + S - 1, q + S - 1))
        rw [T1.out, show decide (0 ≤ (k : Int)) = true from by simp] at C1
        rw [T2.out, show decide (0 ≤ (k : Int)) = true from by simp] at C2
        rw [T4.out] at C4
        generalize ag (p - 1, q) = r at *
        have hr := T3.out
        have r1 : (r == (k : Int)) = false := by simpa using hr
        have r2 : decide (r = (k : Int)) = false := decide_eq_false hr
        clear hr T1 T2 T3 T4
        generalize decide (0 ≤ r) = r0 at *
        go_wp2_with fail
        refine (P1.out _).mono ?_
        rintro e w3 ⟨rfl, hb3⟩
        have Q3 := Lib.hid (Bt (Bt hb.out hb3) (Ba (Below.refl _ w3) (.cells #[.int .i64 p, .int .i64 q] 25)))
        have G3 := Lib.hid (Gr.out.below (Bt hb3 (Ba (Below.refl _ w3) (.cells #[.int .i64 p, .int .i64 q] 25))))
        have K3 := Lib.hid (heap_alloc_new w3 (.cells #[.int .i64 p, .int .i64 q] 25))
        clear hb3 x1 x2 x3 x4 x5
        obtain ⟨x1, x2, x3, x4, x5⟩ := G3.out.cells
        obtain ⟨y1, y2, -, -⟩ := two_cells K3.out
        have hl3 := cell_lt x1
        go_wp2_with fail
        refine (C1.out _).mono ?_
        rintro e w4 ⟨rfl, hb4⟩
        have Q4 := Lib.hid (Bt Q3.out hb4)
        have G4 := Lib.hid (G3.out.below hb4)
        have K4 := Lib.hid (blk_below K3.out hb4)
        clear hb4 x1 x2 x3 x4 x5 y1 y2 hl3
        obtain ⟨x1, x2, x3, x4, x5⟩ := G4.out.cells
        obtain ⟨y1, y2, -, -⟩ := two_cells K4.out
        have hl4 := cell_lt x1
        have hm4 := cell_lt y1
        go_wp2_with fail
        refine (C2.out _).mono ?_
        rintro e w5 ⟨rfl, hb5⟩
        have Q5 := Lib.hid (Bt Q4.out hb5)
        have G5 := Lib.hid (G4.out.below hb5)
        have K5 := Lib.hid (blk_below K4.out hb5)
        clear hb5 x1 x2 x3 x4 x5 y1 y2 hl4 hm4
        obtain ⟨x1, x2, x3, x4, x5⟩ := G5.out.cells
        obtain ⟨y1, y2, -, -⟩ := two_cells K5.out
        have hl5 := cell_lt x1
        have hm5 := cell_lt y1
        go_wp2_with fail
        refine (C3.out _).mono ?_
        rintro e w6 ⟨rfl, hb6⟩
        have Q6 := Lib.hid (Bt Q5.out hb6)
        have G6 := Lib.hid (G5.out.below hb6)
        have K6 := Lib.hid (blk_below K5.out hb6)
        clear hb6 x1 x2 x3 x4 x5 y1 y2 hl5 hm5
        obtain ⟨x1, x2, x3, x4, x5⟩ := G6.out.cells
        obtain ⟨y1, y2, -, -⟩ := two_cells K6.out
        have hl6 := cell_lt x1
        have hm6 := cell_lt y1
        go_wp2_with fail
        refine (C4.out _).mono ?_
        rintro e w7 ⟨v7, rfl, ho7, hb7⟩
        obtain ⟨q7, cap7, rfl, h1, h2, h3⟩ := row_val ho7
        obtain ⟨gb, rfl, hgl, -⟩ := h3 (by simp)
        have c1 := row_cell1 encI1 ho7 0 (by simp)
        rw [show ([(k : Int)] : List Int)[0]! = (k : Int) from rfl] at c1
        have hll : ([(k : Int)] : List Int).length = 1 := rfl
        rw [hll] at *
        have Q7 := Lib.hid (Bt Q6.out hb7)
        clear hb7 ho7 h2 h3 x1 x2 x3 x4 x5 y1 y2 hl6 hm6 hll
        go_wp2
        go_roundw
        case measure => simp only [intOf]; omega
        case rel => exact ⟨k + 1, by omega, by go_num, Q7⟩
      · obtain rfl : k = n := by omega
        have hkz : ¬ (k : Int) < (k : Int) := by omega
        go_wp2
        go_ret
        exact ⟨rfl, Bt B0.out hb.out⟩
end Go.Proofs.YtmeinjkpbijaeaaDoor
