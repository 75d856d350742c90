/-
  TilesAt: the walk.
-/
import Derived.Test.YtmeinjkpbijaeaaDoorEq14
import Derived.Test.YtmeinjkpbijaeaaDoorRu14
namespace Go.Proofs.YtmeinjkpbijaeaaDoor
set_option linter.unusedSimpArgs false
set_option linter.unusedVariables false
open Go.RowKit Go.Sort Go.Lib Go.Shelf

set_option maxHeartbeats 8000000 in
set_option maxRecDepth 100000 in
theorem tilesAt_walk (g : Gd) (x y t : Int) (w : World) (A : Nat → Addr) (hE : Errs w A) : Calls Tryd.prog 3 #[grV g, .agg #[.int .i64 x, .int .i64 y], .int .i64 t] w fun e w' => e = .returned (.bool true) ∧ RowKit.Below w.heap.size w w' := by
  have AL := Lib.hid (fun W' => alive_call W')
  have TA := Lib.hid (fun W' => tat_call g x y W')
  have RA := Lib.hid (fun W' => rat_call g x y W')
  have HE := Lib.hid hE
  have H3 := Lib.hid (Er3.of hE)
  have eqp := eqPt_same
  have gdp := gdPt_run
  clear hE
  generalize atG g (x, y) = a at *
  obtain ⟨W0, hW0⟩ : ∃ W0, W0 = (w.alloc (.cells #[.int .i64 g.w, .int .i64 g.h, .int .i64 g.s, .int .i64 g.x, .int .i64 g.y] 23)).alloc (.cells #[.int .i64 x, .int .i64 y] 25) := ⟨_, rfl⟩
  have B0 : Hid (RowKit.Below w.heap.size w W0) := Lib.hid (by rw [hW0]; exact (by repeat (first | with_reducible exact Below.refl _ _ | with_reducible assumption | with_reducible apply Ba | with_reducible apply Bd | with_reducible apply Bn | with_reducible apply Bg | (with_reducible refine Bs ?_ (by first | (simp; done) | (simp; omega)) _) | (with_reducible refine Bt ?_ (by assumption)) | (with_reducible refine Bt ?_ (Gr.below (by assumption))))))
  have G0 : Hid (GrAt W0 w.heap.size g) := Lib.hid (by rw [hW0]; exact (grAt_new w g).below (Ba (Below.refl _ _) _))
  have K0 : Hid (W0.heap[w.heap.size + 1]? = some (.cells #[.int .i64 x, .int .i64 y] 25 (0, 0))) := Lib.hid (by
    rw [hW0]
    have := heap_alloc_new (w.alloc (.cells #[.int .i64 g.w, .int .i64 g.h, .int .i64 g.s, .int .i64 g.x, .int .i64 g.y] 23)) (.cells #[.int .i64 x, .int .i64 y] 25)
    rwa [show (w.alloc (.cells #[.int .i64 g.w, .int .i64 g.h, .int .i64 g.s, .int .i64 g.x, .int .i64 g.y] 23)).heap.size = w.heap.size + 1 by simp] at this)
  have HW0 := Lib.hid hW0
  clear hW0
  cases hg : grOk g
  · have PF := Lib.hid (fun W' (hb : RowKit.Below w.heap.size w W') => place_form g t W' _ (H3.out.below hb).eF hg)
    have NM := Lib.hid (fun W' (hb : RowKit.Below w.heap.size w W') => num_form (HE.out.below hb))
    obtain ⟨W, H, S, X, Y⟩ := g
    have RC := Lib.hid (fun W' => tright_any W H S X Y W')
    have RR := Lib.hid (fun W' => rgright_any W H S X Y W')
    rw [hg] at RC RR
    clear hg
    dsimp only at *
    go_enter Tryd.func3, Tryd.ntmps3
    go_wp2_with fail
    rw [← HW0.out]
    refine (AL.out _).mono ?_
    rintro e w1 ⟨rfl, hb1⟩
    have A1 := Lib.hid hb1
    clear hb1
    obtain ⟨x1, x2, x3, x4, x5⟩ := (G0.out.below A1.out).cells
    have hl1 := cell_lt x1
    obtain ⟨y1, y2, -, -⟩ := two_cells (blk_below K0.out A1.out)
    have hm1 := cell_lt y1
    go_wp2_with fail
    refine (TA.out _).mono ?_
    rintro e w2 ⟨rfl, hb2⟩
    have A2 := Lib.hid (Bt A1.out hb2)
    clear hb2 x1 x2 x3 x4 x5 y1 y2 hl1 hm1
    obtain ⟨x1, x2, x3, x4, x5⟩ := (G0.out.below A2.out).cells
    have hl2 := cell_lt x1
    obtain ⟨y1, y2, -, -⟩ := two_cells (blk_below K0.out A2.out)
    have hm2 := cell_lt y1
    go_wp2_with fail
    refine (RA.out _).mono ?_
    rintro e w3 ⟨rfl, hb3⟩
    have A3 := Lib.hid (Bt A2.out hb3)
    clear hb3 x1 x2 x3 x4 x5 y1 y2 hl2 hm2
    obtain ⟨x1, x2, x3, x4, x5⟩ := (G0.out.below A3.out).cells
    have hl3 := cell_lt x1
    go_wp2_with fail
    refine wp_region_held_drew (S := (fun w' => Below (w3).heap.size (w3) w' ∧ ∀ b_1 o, b_1 < (w3).heap.size → w'.cell? ⟨b_1, o, none⟩ = (w3).cell? ⟨b_1, o, none⟩)) (by kernel_rfl) (keep0 _) (fun hHeld => ?_)
    (refine wpAnyH_take (i := 0) (v := ?_) rfl (by kernel_rfl) (by kernel_rfl) (by kernel_rfl) (fun _ _ _ h => h) (Or.inl ⟨by rfl, ?rt⟩) (by assumption) ?_; case rt => (intro w hSw; (try dsimp only at hSw); go_simp; (try with_reducible rfl))); (try simp only [Act.put, List.getElem_toArray, List.getElem_cons_succ, List.getElem_cons_zero, List.setIfInBounds_toArray, List.set_cons_zero, List.set_cons_succ])
    (refine wpAnyH_take (i := 2) (v := ?_) rfl (by kernel_rfl) (by kernel_rfl) (by kernel_rfl) (fun _ _ _ h => h) (Or.inl ⟨by rfl, ?rt⟩) (by assumption) ?_; case rt => (intro w hSw; (try dsimp only at hSw); go_simp; (try with_reducible rfl))); (try simp only [Act.put, List.getElem_toArray, List.getElem_cons_succ, List.getElem_cons_zero, List.setIfInBounds_toArray, List.set_cons_zero, List.set_cons_succ])
    (refine wpAnyH_ready (rs := [1]) (by kernel_rfl) (by simp) ?_; refine AllReadyH.cons rfl (fun K hK => ?_) AllReadyH.nil; go_simp; refine (RC.out _).mono ?_; rintro e w1 ⟨rfl, hb1⟩; refine hK.out _ _ (keepB (by assumption) hb1) (fun hHeld => ?_); clear hK K); (try simp only [Act.put, List.getElem_toArray, List.getElem_cons_succ, List.getElem_cons_zero, List.setIfInBounds_toArray, List.set_cons_zero, List.set_cons_succ])
    (refine wpAnyH_ready (rs := [3]) (by kernel_rfl) (by simp) ?_; refine AllReadyH.cons rfl (fun K hK => ?_) AllReadyH.nil; go_simp; refine (RR.out _).mono ?_; rintro e w1 ⟨rfl, hb1⟩; refine hK.out _ _ (keepB (by assumption) hb1) (fun hHeld => ?_); clear hK K); (try simp only [Act.put, List.getElem_toArray, List.getElem_cons_succ, List.getElem_cons_zero, List.setIfInBounds_toArray, List.set_cons_zero, List.set_cons_succ])
    (refine wpAnyH_take (i := 4) (v := ?_) rfl (by kernel_rfl) (by kernel_rfl) (by kernel_rfl) (fun _ _ _ h => h) (Or.inl ⟨by rfl, ?rt⟩) (by assumption) ?_; case rt => (intro w hSw; (try dsimp only at hSw); go_simp; (try with_reducible rfl))); (try simp only [Act.put, List.getElem_toArray, List.getElem_cons_succ, List.getElem_cons_zero, List.setIfInBounds_toArray, List.set_cons_zero, List.set_cons_succ])
    (refine wpAnyH_take (i := 5) (v := ?_) rfl (by kernel_rfl) (by kernel_rfl) (by kernel_rfl) (fun _ _ _ h => h) (Or.inl ⟨by rfl, ?rt⟩) (by assumption) ?_; case rt => (intro w hSw; (try dsimp only at hSw); go_simp; (try with_reducible rfl))); (try simp only [Act.put, List.getElem_toArray, List.getElem_cons_succ, List.getElem_cons_zero, List.setIfInBounds_toArray, List.set_cons_zero, List.set_cons_succ])
    (refine wpAnyH_take (i := 6) (v := ?_) rfl (by kernel_rfl) (by kernel_rfl) (by kernel_rfl) (fun _ _ _ h => h) (Or.inl ⟨by rfl, ?rt⟩) (by assumption) ?_; case rt => (intro w hSw; (try dsimp only at hSw); go_simp; (try with_reducible rfl))); (try simp only [Act.put, List.getElem_toArray, List.getElem_cons_succ, List.getElem_cons_zero, List.setIfInBounds_toArray, List.set_cons_zero, List.set_cons_succ])
    (refine wpAnyH_take (i := 7) (v := ?_) rfl (by kernel_rfl) (by kernel_rfl) (by kernel_rfl) (fun _ _ _ h => h) (Or.inl ⟨by rfl, ?rt⟩) (by assumption) ?_; case rt => (intro w hSw; (try dsimp only at hSw); go_simp; (try with_reducible rfl))); (try simp only [Act.put, List.getElem_toArray, List.getElem_cons_succ, List.getElem_cons_zero, List.setIfInBounds_toArray, List.set_cons_zero, List.set_cons_succ])
    (refine wpAnyH_take (i := 8) (v := ?_) rfl (by kernel_rfl) (by kernel_rfl) (by kernel_rfl) (fun _ _ _ h => h) (Or.inl ⟨by rfl, ?rt⟩) (by assumption) ?_; case rt => (intro w hSw; (try dsimp only at hSw); go_simp; (try with_reducible rfl))); (try simp only [Act.put, List.getElem_toArray, List.getElem_cons_succ, List.getElem_cons_zero, List.setIfInBounds_toArray, List.set_cons_zero, List.set_cons_succ])
    (refine wpAnyH_take (i := 9) (v := ?_) rfl (by kernel_rfl) (by kernel_rfl) (by kernel_rfl) (fun _ _ _ h => h) (Or.inl ⟨by rfl, ?rt⟩) (by assumption) ?_; case rt => (intro w hSw; (try dsimp only at hSw); go_simp; (try with_reducible rfl))); (try simp only [Act.put, List.getElem_toArray, List.getElem_cons_succ, List.getElem_cons_zero, List.setIfInBounds_toArray, List.set_cons_zero, List.set_cons_succ])
    (refine wpAnyH_take (i := 10) (v := ?_) rfl (by kernel_rfl) (by kernel_rfl) (by kernel_rfl) (fun _ _ _ h => h) (Or.inl ⟨by rfl, ?rt⟩) (by assumption) ?_; case rt => (intro w hSw; (try dsimp only at hSw); go_simp; (try with_reducible rfl))); (try simp only [Act.put, List.getElem_toArray, List.getElem_cons_succ, List.getElem_cons_zero, List.setIfInBounds_toArray, List.set_cons_zero, List.set_cons_succ])
    (refine wpAnyH_take (i := 11) (v := ?_) rfl (by kernel_rfl) (by kernel_rfl) (by kernel_rfl) (fun _ _ _ h => h) (Or.inl ⟨by rfl, ?rt⟩) (by assumption) ?_; case rt => (intro w hSw; (try dsimp only at hSw); go_simp; (try with_reducible rfl))); (try simp only [Act.put, List.getElem_toArray, List.getElem_cons_succ, List.getElem_cons_zero, List.setIfInBounds_toArray, List.set_cons_zero, List.set_cons_succ])
    (refine wpAnyH_take (i := 12) (v := ?_) rfl (by kernel_rfl) (by kernel_rfl) (by kernel_rfl) (fun _ _ _ h => h) (Or.inl ⟨by rfl, ?rt⟩) (by assumption) ?_; case rt => (intro w hSw; (try dsimp only at hSw); go_simp; (try with_reducible rfl))); (try simp only [Act.put, List.getElem_toArray, List.getElem_cons_succ, List.getElem_cons_zero, List.setIfInBounds_toArray, List.set_cons_zero, List.set_cons_succ])
    (refine wpAnyH_take (i := 13) (v := ?_) rfl (by kernel_rfl) (by kernel_rfl) (by kernel_rfl) (fun _ _ _ h => h) (Or.inl ⟨by rfl, ?rt⟩) (by assumption) ?_; case rt => (intro w hSw; (try dsimp only at hSw); go_simp; (try with_reducible rfl))); (try simp only [Act.put, List.getElem_toArray, List.getElem_cons_succ, List.getElem_cons_zero, List.setIfInBounds_toArray, List.set_cons_zero, List.set_cons_succ])
    (refine wpAnyH_take (i := 14) (v := ?_) rfl (by kernel_rfl) (by kernel_rfl) (by kernel_rfl) (fun _ _ _ h => h) (Or.inl ⟨by rfl, ?rt⟩) (by assumption) ?_; case rt => (intro w hSw; (try dsimp only at hSw); go_simp; (try with_reducible rfl))); (try simp only [Act.put, List.getElem_toArray, List.getElem_cons_succ, List.getElem_cons_zero, List.setIfInBounds_toArray, List.set_cons_zero, List.set_cons_succ])
    (refine wpAnyH_take (i := 15) (v := ?_) rfl (by kernel_rfl) (by kernel_rfl) (by kernel_rfl) (fun _ _ _ h => h) (Or.inl ⟨by rfl, ?rt⟩) (by assumption) ?_; case rt => (intro w hSw; (try dsimp only at hSw); go_simp; (try with_reducible rfl))); (try simp only [Act.put, List.getElem_toArray, List.getElem_cons_succ, List.getElem_cons_zero, List.setIfInBounds_toArray, List.set_cons_zero, List.set_cons_succ])
    refine wpAnyH_done (by kernel_rfl) ?_ _
    have A4 := Lib.hid (Bt A3.out hHeld.1)
    have B4 := Lib.hid (B0.out.trans (A4.out.mono B0.out.size))
    clear x1 x2 x3 x4 x5 hl3 hHeld
    obtain ⟨x1, x2, x3, x4, x5⟩ := (G0.out.below A4.out).cells
    have hl4 := cell_lt x1
    go_wp2_with fail
    refine (PF.out _ B4.out).mono ?_
    rintro e w5 ⟨rfl, hb5⟩
    have A5 := Lib.hid (Bt (Bt A4.out hb5) (Ba (Below.refl _ w5) (.cells #[(.int .i64 0), (.int .i64 0)] 25)))
    have K5 := Lib.hid (heap_alloc_new w5 (.cells #[(.int .i64 0), (.int .i64 0)] 25))
    clear hb5 x1 x2 x3 x4 x5 hl4
    obtain ⟨x1, x2, x3, x4, x5⟩ := (G0.out.below A5.out).cells
    have hl5 := cell_lt x1
    go_wp2_with fail
    refine (RR.out _).mono ?_
    rintro e w6 ⟨rfl, hb6⟩
    have A6 := Lib.hid (Bt A5.out hb6)
    have K6 := Lib.hid (blk_below K5.out hb6)
    have B6 := Lib.hid (B0.out.trans (A6.out.mono B0.out.size))
    clear hb6 x1 x2 x3 x4 x5 hl5
    obtain ⟨y1, y2, -, -⟩ := two_cells K6.out
    have hm6 := cell_lt y1
    obtain ⟨x1, x2, x3, x4, x5⟩ := (G0.out.below A6.out).cells
    have hl6 := cell_lt x1
    go_wp2_with fail
    refine (NM.out _ B6.out).mono ?_
    rintro e w7 ⟨rfl, hb7⟩
    have B7 := Lib.hid (Bt B6.out hb7)
    clear hb7
    go_wp2
    go_ret
    exact ⟨rfl, B7.out⟩
  · have hn := ntl_cast hg
    cases hbt : btw t 0 (g.w * g.h - 1)
    · have PF := Lib.hid (fun W' (hb : RowKit.Below w.heap.size w W') => place_range g t W' _ (H3.out.below hb).eR hg hbt)
      have NM := Lib.hid (fun W' (hb : RowKit.Below w.heap.size w W') => num_range (HE.out.below hb))
      obtain ⟨W, H, S, X, Y⟩ := g
      have RC := Lib.hid (fun W' => tright_any W H S X Y W')
      have RR := Lib.hid (fun W' => rgright_any W H S X Y W')
      rw [hg] at RC RR
      dsimp only at *
      generalize ntl ⟨W, H, S, X, Y⟩ = n at *
      obtain ⟨hn1, hn2, hn3⟩ := hn
      have hN := hn1.symm
      rw [hN] at hbt
      have hor : t < 0 ∨ (n : Int) ≤ t := by
        simp only [btw, Bool.and_eq_false_iff, decide_eq_false_iff_not] at hbt
        omega
      clear hg hn1 hbt
      by_cases ht0 : t < 0
      · have ht1 : decide (t < 0) = true := decide_eq_true ht0
        clear hor
        go_enter Tryd.func3, Tryd.ntmps3
        go_wp2_with fail
        rw [← HW0.out]
        refine (AL.out _).mono ?_
        rintro e w1 ⟨rfl, hb1⟩
        have A1 := Lib.hid hb1
        clear hb1
        obtain ⟨x1, x2, x3, x4, x5⟩ := (G0.out.below A1.out).cells
        have hl1 := cell_lt x1
        obtain ⟨y1, y2, -, -⟩ := two_cells (blk_below K0.out A1.out)
        have hm1 := cell_lt y1
        go_wp2_with fail
        refine (TA.out _).mono ?_
        rintro e w2 ⟨rfl, hb2⟩
        have A2 := Lib.hid (Bt A1.out hb2)
        clear hb2 x1 x2 x3 x4 x5 y1 y2 hl1 hm1
        obtain ⟨x1, x2, x3, x4, x5⟩ := (G0.out.below A2.out).cells
        have hl2 := cell_lt x1
        obtain ⟨y1, y2, -, -⟩ := two_cells (blk_below K0.out A2.out)
        have hm2 := cell_lt y1
        go_wp2_with fail
        refine (RA.out _).mono ?_
        rintro e w3 ⟨rfl, hb3⟩
        have A3 := Lib.hid (Bt A2.out hb3)
        clear hb3 x1 x2 x3 x4 x5 y1 y2 hl2 hm2
        obtain ⟨x1, x2, x3, x4, x5⟩ := (G0.out.below A3.out).cells
        have hl3 := cell_lt x1
        go_wp2_with fail
        refine wp_region_held_drew (S := (fun w' => Below (w3).heap.size (w3) w' ∧ ∀ b_1 o, b_1 < (w3).heap.size → w'.cell? ⟨b_1, o, none⟩ = (w3).cell? ⟨b_1, o, none⟩)) (by kernel_rfl) (keep0 _) (fun hHeld => ?_)
        (refine wpAnyH_take (i := 0) (v := ?_) rfl (by kernel_rfl) (by kernel_rfl) (by kernel_rfl) (fun _ _ _ h => h) (Or.inl ⟨by rfl, ?rt⟩) (by assumption) ?_; case rt => (intro w hSw; (try dsimp only at hSw); go_simp; (try with_reducible rfl))); (try simp only [Act.put, List.getElem_toArray, List.getElem_cons_succ, List.getElem_cons_zero, List.setIfInBounds_toArray, List.set_cons_zero, List.set_cons_succ])
        (refine wpAnyH_take (i := 2) (v := ?_) rfl (by kernel_rfl) (by kernel_rfl) (by kernel_rfl) (fun _ _ _ h => h) (Or.inl ⟨by rfl, ?rt⟩) (by assumption) ?_; case rt => (intro w hSw; (try dsimp only at hSw); go_simp; (try with_reducible rfl))); (try simp only [Act.put, List.getElem_toArray, List.getElem_cons_succ, List.getElem_cons_zero, List.setIfInBounds_toArray, List.set_cons_zero, List.set_cons_succ])
        (refine wpAnyH_ready (rs := [1]) (by kernel_rfl) (by simp) ?_; refine AllReadyH.cons rfl (fun K hK => ?_) AllReadyH.nil; go_simp; refine (RC.out _).mono ?_; rintro e w1 ⟨rfl, hb1⟩; refine hK.out _ _ (keepB (by assumption) hb1) (fun hHeld => ?_); clear hK K); (try simp only [Act.put, List.getElem_toArray, List.getElem_cons_succ, List.getElem_cons_zero, List.setIfInBounds_toArray, List.set_cons_zero, List.set_cons_succ])
        (refine wpAnyH_ready (rs := [3]) (by kernel_rfl) (by simp) ?_; refine AllReadyH.cons rfl (fun K hK => ?_) AllReadyH.nil; go_simp; refine (RR.out _).mono ?_; rintro e w1 ⟨rfl, hb1⟩; refine hK.out _ _ (keepB (by assumption) hb1) (fun hHeld => ?_); clear hK K); (try simp only [Act.put, List.getElem_toArray, List.getElem_cons_succ, List.getElem_cons_zero, List.setIfInBounds_toArray, List.set_cons_zero, List.set_cons_succ])
        (refine wpAnyH_take (i := 4) (v := ?_) rfl (by kernel_rfl) (by kernel_rfl) (by kernel_rfl) (fun _ _ _ h => h) (Or.inl ⟨by rfl, ?rt⟩) (by assumption) ?_; case rt => (intro w hSw; (try dsimp only at hSw); go_simp; (try with_reducible rfl))); (try simp only [Act.put, List.getElem_toArray, List.getElem_cons_succ, List.getElem_cons_zero, List.setIfInBounds_toArray, List.set_cons_zero, List.set_cons_succ])
        (refine wpAnyH_take (i := 5) (v := ?_) rfl (by kernel_rfl) (by kernel_rfl) (by kernel_rfl) (fun _ _ _ h => h) (Or.inl ⟨by rfl, ?rt⟩) (by assumption) ?_; case rt => (intro w hSw; (try dsimp only at hSw); go_simp; (try with_reducible rfl))); (try simp only [Act.put, List.getElem_toArray, List.getElem_cons_succ, List.getElem_cons_zero, List.setIfInBounds_toArray, List.set_cons_zero, List.set_cons_succ])
        (refine wpAnyH_take (i := 6) (v := ?_) rfl (by kernel_rfl) (by kernel_rfl) (by kernel_rfl) (fun _ _ _ h => h) (Or.inl ⟨by rfl, ?rt⟩) (by assumption) ?_; case rt => (intro w hSw; (try dsimp only at hSw); go_simp; (try with_reducible rfl))); (try simp only [Act.put, List.getElem_toArray, List.getElem_cons_succ, List.getElem_cons_zero, List.setIfInBounds_toArray, List.set_cons_zero, List.set_cons_succ])
        (refine wpAnyH_take (i := 7) (v := ?_) rfl (by kernel_rfl) (by kernel_rfl) (by kernel_rfl) (fun _ _ _ h => h) (Or.inl ⟨by rfl, ?rt⟩) (by assumption) ?_; case rt => (intro w hSw; (try dsimp only at hSw); go_simp; (try with_reducible rfl))); (try simp only [Act.put, List.getElem_toArray, List.getElem_cons_succ, List.getElem_cons_zero, List.setIfInBounds_toArray, List.set_cons_zero, List.set_cons_succ])
        (refine wpAnyH_take (i := 8) (v := ?_) rfl (by kernel_rfl) (by kernel_rfl) (by kernel_rfl) (fun _ _ _ h => h) (Or.inl ⟨by rfl, ?rt⟩) (by assumption) ?_; case rt => (intro w hSw; (try dsimp only at hSw); go_simp; (try with_reducible rfl))); (try simp only [Act.put, List.getElem_toArray, List.getElem_cons_succ, List.getElem_cons_zero, List.setIfInBounds_toArray, List.set_cons_zero, List.set_cons_succ])
        (refine wpAnyH_take (i := 9) (v := ?_) rfl (by kernel_rfl) (by kernel_rfl) (by kernel_rfl) (fun _ _ _ h => h) (Or.inl ⟨by rfl, ?rt⟩) (by assumption) ?_; case rt => (intro w hSw; (try dsimp only at hSw); go_simp; (try with_reducible rfl))); (try simp only [Act.put, List.getElem_toArray, List.getElem_cons_succ, List.getElem_cons_zero, List.setIfInBounds_toArray, List.set_cons_zero, List.set_cons_succ])
        (refine wpAnyH_take (i := 10) (v := ?_) rfl (by kernel_rfl) (by kernel_rfl) (by kernel_rfl) (fun _ _ _ h => h) (Or.inl ⟨by rfl, ?rt⟩) (by assumption) ?_; case rt => (intro w hSw; (try dsimp only at hSw); go_simp; (try with_reducible rfl))); (try simp only [Act.put, List.getElem_toArray, List.getElem_cons_succ, List.getElem_cons_zero, List.setIfInBounds_toArray, List.set_cons_zero, List.set_cons_succ])
        (refine wpAnyH_take (i := 11) (v := ?_) rfl (by kernel_rfl) (by kernel_rfl) (by kernel_rfl) (fun _ _ _ h => h) (Or.inl ⟨by rfl, ?rt⟩) (by assumption) ?_; case rt => (intro w hSw; (try dsimp only at hSw); go_simp; (try with_reducible rfl))); (try simp only [Act.put, List.getElem_toArray, List.getElem_cons_succ, List.getElem_cons_zero, List.setIfInBounds_toArray, List.set_cons_zero, List.set_cons_succ])
        (refine wpAnyH_take (i := 12) (v := ?_) rfl (by kernel_rfl) (by kernel_rfl) (by kernel_rfl) (fun _ _ _ h => h) (Or.inl ⟨by rfl, ?rt⟩) (by assumption) ?_; case rt => (intro w hSw; (try dsimp only at hSw); go_simp; (try with_reducible rfl))); (try simp only [Act.put, List.getElem_toArray, List.getElem_cons_succ, List.getElem_cons_zero, List.setIfInBounds_toArray, List.set_cons_zero, List.set_cons_succ])
        (refine wpAnyH_take (i := 13) (v := ?_) rfl (by kernel_rfl) (by kernel_rfl) (by kernel_rfl) (fun _ _ _ h => h) (Or.inl ⟨by rfl, ?rt⟩) (by assumption) ?_; case rt => (intro w hSw; (try dsimp only at hSw); go_simp; (try with_reducible rfl))); (try simp only [Act.put, List.getElem_toArray, List.getElem_cons_succ, List.getElem_cons_zero, List.setIfInBounds_toArray, List.set_cons_zero, List.set_cons_succ])
        (refine wpAnyH_take (i := 14) (v := ?_) rfl (by kernel_rfl) (by kernel_rfl) (by kernel_rfl) (fun _ _ _ h => h) (Or.inl ⟨by rfl, ?rt⟩) (by assumption) ?_; case rt => (intro w hSw; (try dsimp only at hSw); go_simp; (try with_reducible rfl))); (try simp only [Act.put, List.getElem_toArray, List.getElem_cons_succ, List.getElem_cons_zero, List.setIfInBounds_toArray, List.set_cons_zero, List.set_cons_succ])
        (refine wpAnyH_take (i := 15) (v := ?_) rfl (by kernel_rfl) (by kernel_rfl) (by kernel_rfl) (fun _ _ _ h => h) (Or.inl ⟨by rfl, ?rt⟩) (by assumption) ?_; case rt => (intro w hSw; (try dsimp only at hSw); go_simp; (try with_reducible rfl))); (try simp only [Act.put, List.getElem_toArray, List.getElem_cons_succ, List.getElem_cons_zero, List.setIfInBounds_toArray, List.set_cons_zero, List.set_cons_succ])
        refine wpAnyH_done (by kernel_rfl) ?_ _
        have A4 := Lib.hid (Bt A3.out hHeld.1)
        have B4 := Lib.hid (B0.out.trans (A4.out.mono B0.out.size))
        clear x1 x2 x3 x4 x5 hl3 hHeld
        obtain ⟨x1, x2, x3, x4, x5⟩ := (G0.out.below A4.out).cells
        have hl4 := cell_lt x1
        go_wp2_with fail
        refine (PF.out _ B4.out).mono ?_
        rintro e w5 ⟨rfl, hb5⟩
        have A5 := Lib.hid (Bt (Bt A4.out hb5) (Ba (Below.refl _ w5) (.cells #[(.int .i64 0), (.int .i64 0)] 25)))
        have K5 := Lib.hid (heap_alloc_new w5 (.cells #[(.int .i64 0), (.int .i64 0)] 25))
        clear hb5 x1 x2 x3 x4 x5 hl4
        obtain ⟨x1, x2, x3, x4, x5⟩ := (G0.out.below A5.out).cells
        have hl5 := cell_lt x1
        go_wp2_with fail
        refine (RR.out _).mono ?_
        rintro e w6 ⟨rfl, hb6⟩
        have A6 := Lib.hid (Bt A5.out hb6)
        have K6 := Lib.hid (blk_below K5.out hb6)
        have B6 := Lib.hid (B0.out.trans (A6.out.mono B0.out.size))
        clear hb6 x1 x2 x3 x4 x5 hl5
        obtain ⟨y1, y2, -, -⟩ := two_cells K6.out
        have hm6 := cell_lt y1
        obtain ⟨x1, x2, x3, x4, x5⟩ := (G0.out.below A6.out).cells
        have hl6 := cell_lt x1
        go_wp2_with fail
        refine (NM.out _ B6.out).mono ?_
        rintro e w7 ⟨rfl, hb7⟩
        have B7 := Lib.hid (Bt B6.out hb7)
        clear hb7
        go_wp2
        go_ret
        exact ⟨rfl, B7.out⟩
      · have ht1 : decide (t < 0) = false := decide_eq_false ht0
        have ht2 : (n : Int) ≤ t := by omega
        have ht3 : decide ((n : Int) ≤ t) = true := decide_eq_true ht2
        clear hor
        go_enter Tryd.func3, Tryd.ntmps3
        go_wp2_with fail
        rw [← HW0.out]
        refine (AL.out _).mono ?_
        rintro e w1 ⟨rfl, hb1⟩
        have A1 := Lib.hid hb1
        clear hb1
        obtain ⟨x1, x2, x3, x4, x5⟩ := (G0.out.below A1.out).cells
        have hl1 := cell_lt x1
        obtain ⟨y1, y2, -, -⟩ := two_cells (blk_below K0.out A1.out)
        have hm1 := cell_lt y1
        go_wp2_with fail
        refine (TA.out _).mono ?_
        rintro e w2 ⟨rfl, hb2⟩
        have A2 := Lib.hid (Bt A1.out hb2)
        clear hb2 x1 x2 x3 x4 x5 y1 y2 hl1 hm1
        obtain ⟨x1, x2, x3, x4, x5⟩ := (G0.out.below A2.out).cells
        have hl2 := cell_lt x1
        obtain ⟨y1, y2, -, -⟩ := two_cells (blk_below K0.out A2.out)
        have hm2 := cell_lt y1
        go_wp2_with fail
        refine (RA.out _).mono ?_
        rintro e w3 ⟨rfl, hb3⟩
        have A3 := Lib.hid (Bt A2.out hb3)
        clear hb3 x1 x2 x3 x4 x5 y1 y2 hl2 hm2
        obtain ⟨x1, x2, x3, x4, x5⟩ := (G0.out.below A3.out).cells
        have hl3 := cell_lt x1
        go_wp2_with fail
        refine wp_region_held_drew (S := (fun w' => Below (w3).heap.size (w3) w' ∧ ∀ b_1 o, b_1 < (w3).heap.size → w'.cell? ⟨b_1, o, none⟩ = (w3).cell? ⟨b_1, o, none⟩)) (by kernel_rfl) (keep0 _) (fun hHeld => ?_)
        (refine wpAnyH_take (i := 0) (v := ?_) rfl (by kernel_rfl) (by kernel_rfl) (by kernel_rfl) (fun _ _ _ h => h) (Or.inl ⟨by rfl, ?rt⟩) (by assumption) ?_; case rt => (intro w hSw; (try dsimp only at hSw); go_simp; (try with_reducible rfl))); (try simp only [Act.put, List.getElem_toArray, List.getElem_cons_succ, List.getElem_cons_zero, List.setIfInBounds_toArray, List.set_cons_zero, List.set_cons_succ])
        (refine wpAnyH_take (i := 2) (v := ?_) rfl (by kernel_rfl) (by kernel_rfl) (by kernel_rfl) (fun _ _ _ h => h) (Or.inl ⟨by rfl, ?rt⟩) (by assumption) ?_; case rt => (intro w hSw; (try dsimp only at hSw); go_simp; (try with_reducible rfl))); (try simp only [Act.put, List.getElem_toArray, List.getElem_cons_succ, List.getElem_cons_zero, List.setIfInBounds_toArray, List.set_cons_zero, List.set_cons_succ])
        (refine wpAnyH_ready (rs := [1]) (by kernel_rfl) (by simp) ?_; refine AllReadyH.cons rfl (fun K hK => ?_) AllReadyH.nil; go_simp; refine (RC.out _).mono ?_; rintro e w1 ⟨rfl, hb1⟩; refine hK.out _ _ (keepB (by assumption) hb1) (fun hHeld => ?_); clear hK K); (try simp only [Act.put, List.getElem_toArray, List.getElem_cons_succ, List.getElem_cons_zero, List.setIfInBounds_toArray, List.set_cons_zero, List.set_cons_succ])
        (refine wpAnyH_ready (rs := [3]) (by kernel_rfl) (by simp) ?_; refine AllReadyH.cons rfl (fun K hK => ?_) AllReadyH.nil; go_simp; refine (RR.out _).mono ?_; rintro e w1 ⟨rfl, hb1⟩; refine hK.out _ _ (keepB (by assumption) hb1) (fun hHeld => ?_); clear hK K); (try simp only [Act.put, List.getElem_toArray, List.getElem_cons_succ, List.getElem_cons_zero, List.setIfInBounds_toArray, List.set_cons_zero, List.set_cons_succ])
        (refine wpAnyH_take (i := 4) (v := ?_) rfl (by kernel_rfl) (by kernel_rfl) (by kernel_rfl) (fun _ _ _ h => h) (Or.inl ⟨by rfl, ?rt⟩) (by assumption) ?_; case rt => (intro w hSw; (try dsimp only at hSw); go_simp; (try with_reducible rfl))); (try simp only [Act.put, List.getElem_toArray, List.getElem_cons_succ, List.getElem_cons_zero, List.setIfInBounds_toArray, List.set_cons_zero, List.set_cons_succ])
        (refine wpAnyH_take (i := 5) (v := ?_) rfl (by kernel_rfl) (by kernel_rfl) (by kernel_rfl) (fun _ _ _ h => h) (Or.inl ⟨by rfl, ?rt⟩) (by assumption) ?_; case rt => (intro w hSw; (try dsimp only at hSw); go_simp; (try with_reducible rfl))); (try simp only [Act.put, List.getElem_toArray, List.getElem_cons_succ, List.getElem_cons_zero, List.setIfInBounds_toArray, List.set_cons_zero, List.set_cons_succ])
        (refine wpAnyH_take (i := 6) (v := ?_) rfl (by kernel_rfl) (by kernel_rfl) (by kernel_rfl) (fun _ _ _ h => h) (Or.inl ⟨by rfl, ?rt⟩) (by assumption) ?_; case rt => (intro w hSw; (try dsimp only at hSw); go_simp; (try with_reducible rfl))); (try simp only [Act.put, List.getElem_toArray, List.getElem_cons_succ, List.getElem_cons_zero, List.setIfInBounds_toArray, List.set_cons_zero, List.set_cons_succ])
        (refine wpAnyH_take (i := 7) (v := ?_) rfl (by kernel_rfl) (by kernel_rfl) (by kernel_rfl) (fun _ _ _ h => h) (Or.inl ⟨by rfl, ?rt⟩) (by assumption) ?_; case rt => (intro w hSw; (try dsimp only at hSw); go_simp; (try with_reducible rfl))); (try simp only [Act.put, List.getElem_toArray, List.getElem_cons_succ, List.getElem_cons_zero, List.setIfInBounds_toArray, List.set_cons_zero, List.set_cons_succ])
        (refine wpAnyH_take (i := 8) (v := ?_) rfl (by kernel_rfl) (by kernel_rfl) (by kernel_rfl) (fun _ _ _ h => h) (Or.inl ⟨by rfl, ?rt⟩) (by assumption) ?_; case rt => (intro w hSw; (try dsimp only at hSw); go_simp; (try with_reducible rfl))); (try simp only [Act.put, List.getElem_toArray, List.getElem_cons_succ, List.getElem_cons_zero, List.setIfInBounds_toArray, List.set_cons_zero, List.set_cons_succ])
        (refine wpAnyH_take (i := 9) (v := ?_) rfl (by kernel_rfl) (by kernel_rfl) (by kernel_rfl) (fun _ _ _ h => h) (Or.inl ⟨by rfl, ?rt⟩) (by assumption) ?_; case rt => (intro w hSw; (try dsimp only at hSw); go_simp; (try with_reducible rfl))); (try simp only [Act.put, List.getElem_toArray, List.getElem_cons_succ, List.getElem_cons_zero, List.setIfInBounds_toArray, List.set_cons_zero, List.set_cons_succ])
        (refine wpAnyH_take (i := 10) (v := ?_) rfl (by kernel_rfl) (by kernel_rfl) (by kernel_rfl) (fun _ _ _ h => h) (Or.inl ⟨by rfl, ?rt⟩) (by assumption) ?_; case rt => (intro w hSw; (try dsimp only at hSw); go_simp; (try with_reducible rfl))); (try simp only [Act.put, List.getElem_toArray, List.getElem_cons_succ, List.getElem_cons_zero, List.setIfInBounds_toArray, List.set_cons_zero, List.set_cons_succ])
        (refine wpAnyH_take (i := 11) (v := ?_) rfl (by kernel_rfl) (by kernel_rfl) (by kernel_rfl) (fun _ _ _ h => h) (Or.inl ⟨by rfl, ?rt⟩) (by assumption) ?_; case rt => (intro w hSw; (try dsimp only at hSw); go_simp; (try with_reducible rfl))); (try simp only [Act.put, List.getElem_toArray, List.getElem_cons_succ, List.getElem_cons_zero, List.setIfInBounds_toArray, List.set_cons_zero, List.set_cons_succ])
        (refine wpAnyH_take (i := 12) (v := ?_) rfl (by kernel_rfl) (by kernel_rfl) (by kernel_rfl) (fun _ _ _ h => h) (Or.inl ⟨by rfl, ?rt⟩) (by assumption) ?_; case rt => (intro w hSw; (try dsimp only at hSw); go_simp; (try with_reducible rfl))); (try simp only [Act.put, List.getElem_toArray, List.getElem_cons_succ, List.getElem_cons_zero, List.setIfInBounds_toArray, List.set_cons_zero, List.set_cons_succ])
        (refine wpAnyH_take (i := 13) (v := ?_) rfl (by kernel_rfl) (by kernel_rfl) (by kernel_rfl) (fun _ _ _ h => h) (Or.inl ⟨by rfl, ?rt⟩) (by assumption) ?_; case rt => (intro w hSw; (try dsimp only at hSw); go_simp; (try with_reducible rfl))); (try simp only [Act.put, List.getElem_toArray, List.getElem_cons_succ, List.getElem_cons_zero, List.setIfInBounds_toArray, List.set_cons_zero, List.set_cons_succ])
        (refine wpAnyH_take (i := 14) (v := ?_) rfl (by kernel_rfl) (by kernel_rfl) (by kernel_rfl) (fun _ _ _ h => h) (Or.inl ⟨by rfl, ?rt⟩) (by assumption) ?_; case rt => (intro w hSw; (try dsimp only at hSw); go_simp; (try with_reducible rfl))); (try simp only [Act.put, List.getElem_toArray, List.getElem_cons_succ, List.getElem_cons_zero, List.setIfInBounds_toArray, List.set_cons_zero, List.set_cons_succ])
        (refine wpAnyH_take (i := 15) (v := ?_) rfl (by kernel_rfl) (by kernel_rfl) (by kernel_rfl) (fun _ _ _ h => h) (Or.inl ⟨by rfl, ?rt⟩) (by assumption) ?_; case rt => (intro w hSw; (try dsimp only at hSw); go_simp; (try with_reducible rfl))); (try simp only [Act.put, List.getElem_toArray, List.getElem_cons_succ, List.getElem_cons_zero, List.setIfInBounds_toArray, List.set_cons_zero, List.set_cons_succ])
        refine wpAnyH_done (by kernel_rfl) ?_ _
        have A4 := Lib.hid (Bt A3.out hHeld.1)
        have B4 := Lib.hid (B0.out.trans (A4.out.mono B0.out.size))
        clear x1 x2 x3 x4 x5 hl3 hHeld
        obtain ⟨x1, x2, x3, x4, x5⟩ := (G0.out.below A4.out).cells
        have hl4 := cell_lt x1
        go_wp2_with fail
        refine (PF.out _ B4.out).mono ?_
        rintro e w5 ⟨rfl, hb5⟩
        have A5 := Lib.hid (Bt (Bt A4.out hb5) (Ba (Below.refl _ w5) (.cells #[(.int .i64 0), (.int .i64 0)] 25)))
        have K5 := Lib.hid (heap_alloc_new w5 (.cells #[(.int .i64 0), (.int .i64 0)] 25))
        clear hb5 x1 x2 x3 x4 x5 hl4
        obtain ⟨x1, x2, x3, x4, x5⟩ := (G0.out.below A5.out).cells
        have hl5 := cell_lt x1
        go_wp2_with fail
        refine (RR.out _).mono ?_
        rintro e w6 ⟨rfl, hb6⟩
        have A6 := Lib.hid (Bt A5.out hb6)
        have K6 := Lib.hid (blk_below K5.out hb6)
        have B6 := Lib.hid (B0.out.trans (A6.out.mono B0.out.size))
        clear hb6 x1 x2 x3 x4 x5 hl5
        obtain ⟨y1, y2, -, -⟩ := two_cells K6.out
        have hm6 := cell_lt y1
        obtain ⟨x1, x2, x3, x4, x5⟩ := (G0.out.below A6.out).cells
        have hl6 := cell_lt x1
        go_wp2_with fail
        refine (NM.out _ B6.out).mono ?_
        rintro e w7 ⟨rfl, hb7⟩
        have B7 := Lib.hid (Bt B6.out hb7)
        clear hb7
        go_wp2
        go_ret
        exact ⟨rfl, B7.out⟩
    · have hbt2 : 0 ≤ t ∧ t ≤ g.w * g.h - 1 := by
        simp only [btw, Bool.and_eq_true, decide_eq_true_eq] at hbt
        omega
      obtain ⟨k, rfl⟩ : ∃ k : Nat, t = k := ⟨t.toNat, by omega⟩
      have hkn : k < ntl g := by omega
      have PF := Lib.hid (fun W' (_ : RowKit.Below w.heap.size w W') => place_ok g k W' hg hkn)
      have TB := Lib.hid (fun W' => rtile_any g k W' hg hkn)
      unfold tlB at TB
      try dsimp only at TB
      generalize tlX g k = px at *
      generalize tlY g k = py at *
      obtain ⟨W, H, S, X, Y⟩ := g
      have RC := Lib.hid (fun W' => tright_any W H S X Y W')
      have RR := Lib.hid (fun W' => rgright_any W H S X Y W')
      rw [hg] at RC RR
      try dsimp only at *
      generalize px + S - 1 = pz at *
      generalize py + S - 1 = pw at *
      generalize ntl ⟨W, H, S, X, Y⟩ = n at *
      obtain ⟨hn1, hn2, hn3⟩ := hn
      have hN := hn1.symm
      have ht0 : ¬ (k : Int) < 0 := by omega
      have ht2 : ¬ (n : Int) ≤ (k : Int) := by omega
      clear hg hn1 hbt hbt2
      go_enter Tryd.func3, Tryd.ntmps3
      go_wp2_with fail
      rw [← HW0.out]
      refine (AL.out _).mono ?_
      rintro e w1 ⟨rfl, hb1⟩
      have A1 := Lib.hid hb1
      clear hb1
      obtain ⟨x1, x2, x3, x4, x5⟩ := (G0.out.below A1.out).cells
      have hl1 := cell_lt x1
      obtain ⟨y1, y2, -, -⟩ := two_cells (blk_below K0.out A1.out)
      have hm1 := cell_lt y1
      go_wp2_with fail
      refine (TA.out _).mono ?_
      rintro e w2 ⟨rfl, hb2⟩
      have A2 := Lib.hid (Bt A1.out hb2)
      clear hb2 x1 x2 x3 x4 x5 y1 y2 hl1 hm1
      obtain ⟨x1, x2, x3, x4, x5⟩ := (G0.out.below A2.out).cells
      have hl2 := cell_lt x1
      obtain ⟨y1, y2, -, -⟩ := two_cells (blk_below K0.out A2.out)
      have hm2 := cell_lt y1
      go_wp2_with fail
      refine (RA.out _).mono ?_
      rintro e w3 ⟨rfl, hb3⟩
      have A3 := Lib.hid (Bt A2.out hb3)
      clear hb3 x1 x2 x3 x4 x5 y1 y2 hl2 hm2
      obtain ⟨x1, x2, x3, x4, x5⟩ := (G0.out.below A3.out).cells
      have hl3 := cell_lt x1
      go_wp2_with fail
      refine wp_region_held_drew (S := (fun w' => Below (w3).heap.size (w3) w' ∧ ∀ b_1 o, b_1 < (w3).heap.size → w'.cell? ⟨b_1, o, none⟩ = (w3).cell? ⟨b_1, o, none⟩)) (by kernel_rfl) (keep0 _) (fun hHeld => ?_)
      (refine wpAnyH_take (i := 0) (v := ?_) rfl (by kernel_rfl) (by kernel_rfl) (by kernel_rfl) (fun _ _ _ h => h) (Or.inl ⟨by rfl, ?rt⟩) (by assumption) ?_; case rt => (intro w hSw; (try dsimp only at hSw); go_simp; (try with_reducible rfl))); (try simp only [Act.put, List.getElem_toArray, List.getElem_cons_succ, List.getElem_cons_zero, List.setIfInBounds_toArray, List.set_cons_zero, List.set_cons_succ])
      (refine wpAnyH_take (i := 2) (v := ?_) rfl (by kernel_rfl) (by kernel_rfl) (by kernel_rfl) (fun _ _ _ h => h) (Or.inl ⟨by rfl, ?rt⟩) (by assumption) ?_; case rt => (intro w hSw; (try dsimp only at hSw); go_simp; (try with_reducible rfl))); (try simp only [Act.put, List.getElem_toArray, List.getElem_cons_succ, List.getElem_cons_zero, List.setIfInBounds_toArray, List.set_cons_zero, List.set_cons_succ])
      (refine wpAnyH_ready (rs := [1]) (by kernel_rfl) (by simp) ?_; refine AllReadyH.cons rfl (fun K hK => ?_) AllReadyH.nil; go_simp; refine (RC.out _).mono ?_; rintro e w1 ⟨rfl, hb1⟩; refine hK.out _ _ (keepB (by assumption) hb1) (fun hHeld => ?_); clear hK K); (try simp only [Act.put, List.getElem_toArray, List.getElem_cons_succ, List.getElem_cons_zero, List.setIfInBounds_toArray, List.set_cons_zero, List.set_cons_succ])
      (refine wpAnyH_ready (rs := [3]) (by kernel_rfl) (by simp) ?_; refine AllReadyH.cons rfl (fun K hK => ?_) AllReadyH.nil; go_simp; refine (RR.out _).mono ?_; rintro e w1 ⟨rfl, hb1⟩; refine hK.out _ _ (keepB (by assumption) hb1) (fun hHeld => ?_); clear hK K); (try simp only [Act.put, List.getElem_toArray, List.getElem_cons_succ, List.getElem_cons_zero, List.setIfInBounds_toArray, List.set_cons_zero, List.set_cons_succ])
      (refine wpAnyH_take (i := 4) (v := ?_) rfl (by kernel_rfl) (by kernel_rfl) (by kernel_rfl) (fun _ _ _ h => h) (Or.inl ⟨by rfl, ?rt⟩) (by assumption) ?_; case rt => (intro w hSw; (try dsimp only at hSw); go_simp; (try with_reducible rfl))); (try simp only [Act.put, List.getElem_toArray, List.getElem_cons_succ, List.getElem_cons_zero, List.setIfInBounds_toArray, List.set_cons_zero, List.set_cons_succ])
      (refine wpAnyH_take (i := 5) (v := ?_) rfl (by kernel_rfl) (by kernel_rfl) (by kernel_rfl) (fun _ _ _ h => h) (Or.inl ⟨by rfl, ?rt⟩) (by assumption) ?_; case rt => (intro w hSw; (try dsimp only at hSw); go_simp; (try with_reducible rfl))); (try simp only [Act.put, List.getElem_toArray, List.getElem_cons_succ, List.getElem_cons_zero, List.setIfInBounds_toArray, List.set_cons_zero, List.set_cons_succ])
      (refine wpAnyH_take (i := 6) (v := ?_) rfl (by kernel_rfl) (by kernel_rfl) (by kernel_rfl) (fun _ _ _ h => h) (Or.inl ⟨by rfl, ?rt⟩) (by assumption) ?_; case rt => (intro w hSw; (try dsimp only at hSw); go_simp; (try with_reducible rfl))); (try simp only [Act.put, List.getElem_toArray, List.getElem_cons_succ, List.getElem_cons_zero, List.setIfInBounds_toArray, List.set_cons_zero, List.set_cons_succ])
      (refine wpAnyH_take (i := 7) (v := ?_) rfl (by kernel_rfl) (by kernel_rfl) (by kernel_rfl) (fun _ _ _ h => h) (Or.inl ⟨by rfl, ?rt⟩) (by assumption) ?_; case rt => (intro w hSw; (try dsimp only at hSw); go_simp; (try with_reducible rfl))); (try simp only [Act.put, List.getElem_toArray, List.getElem_cons_succ, List.getElem_cons_zero, List.setIfInBounds_toArray, List.set_cons_zero, List.set_cons_succ])
      (refine wpAnyH_take (i := 8) (v := ?_) rfl (by kernel_rfl) (by kernel_rfl) (by kernel_rfl) (fun _ _ _ h => h) (Or.inl ⟨by rfl, ?rt⟩) (by assumption) ?_; case rt => (intro w hSw; (try dsimp only at hSw); go_simp; (try with_reducible rfl))); (try simp only [Act.put, List.getElem_toArray, List.getElem_cons_succ, List.getElem_cons_zero, List.setIfInBounds_toArray, List.set_cons_zero, List.set_cons_succ])
      (refine wpAnyH_take (i := 9) (v := ?_) rfl (by kernel_rfl) (by kernel_rfl) (by kernel_rfl) (fun _ _ _ h => h) (Or.inl ⟨by rfl, ?rt⟩) (by assumption) ?_; case rt => (intro w hSw; (try dsimp only at hSw); go_simp; (try with_reducible rfl))); (try simp only [Act.put, List.getElem_toArray, List.getElem_cons_succ, List.getElem_cons_zero, List.setIfInBounds_toArray, List.set_cons_zero, List.set_cons_succ])
      (refine wpAnyH_take (i := 10) (v := ?_) rfl (by kernel_rfl) (by kernel_rfl) (by kernel_rfl) (fun _ _ _ h => h) (Or.inl ⟨by rfl, ?rt⟩) (by assumption) ?_; case rt => (intro w hSw; (try dsimp only at hSw); go_simp; (try with_reducible rfl))); (try simp only [Act.put, List.getElem_toArray, List.getElem_cons_succ, List.getElem_cons_zero, List.setIfInBounds_toArray, List.set_cons_zero, List.set_cons_succ])
      (refine wpAnyH_take (i := 11) (v := ?_) rfl (by kernel_rfl) (by kernel_rfl) (by kernel_rfl) (fun _ _ _ h => h) (Or.inl ⟨by rfl, ?rt⟩) (by assumption) ?_; case rt => (intro w hSw; (try dsimp only at hSw); go_simp; (try with_reducible rfl))); (try simp only [Act.put, List.getElem_toArray, List.getElem_cons_succ, List.getElem_cons_zero, List.setIfInBounds_toArray, List.set_cons_zero, List.set_cons_succ])
      (refine wpAnyH_take (i := 12) (v := ?_) rfl (by kernel_rfl) (by kernel_rfl) (by kernel_rfl) (fun _ _ _ h => h) (Or.inl ⟨by rfl, ?rt⟩) (by assumption) ?_; case rt => (intro w hSw; (try dsimp only at hSw); go_simp; (try with_reducible rfl))); (try simp only [Act.put, List.getElem_toArray, List.getElem_cons_succ, List.getElem_cons_zero, List.setIfInBounds_toArray, List.set_cons_zero, List.set_cons_succ])
      (refine wpAnyH_take (i := 13) (v := ?_) rfl (by kernel_rfl) (by kernel_rfl) (by kernel_rfl) (fun _ _ _ h => h) (Or.inl ⟨by rfl, ?rt⟩) (by assumption) ?_; case rt => (intro w hSw; (try dsimp only at hSw); go_simp; (try with_reducible rfl))); (try simp only [Act.put, List.getElem_toArray, List.getElem_cons_succ, List.getElem_cons_zero, List.setIfInBounds_toArray, List.set_cons_zero, List.set_cons_succ])
      (refine wpAnyH_take (i := 14) (v := ?_) rfl (by kernel_rfl) (by kernel_rfl) (by kernel_rfl) (fun _ _ _ h => h) (Or.inl ⟨by rfl, ?rt⟩) (by assumption) ?_; case rt => (intro w hSw; (try dsimp only at hSw); go_simp; (try with_reducible rfl))); (try simp only [Act.put, List.getElem_toArray, List.getElem_cons_succ, List.getElem_cons_zero, List.setIfInBounds_toArray, List.set_cons_zero, List.set_cons_succ])
      (refine wpAnyH_take (i := 15) (v := ?_) rfl (by kernel_rfl) (by kernel_rfl) (by kernel_rfl) (fun _ _ _ h => h) (Or.inl ⟨by rfl, ?rt⟩) (by assumption) ?_; case rt => (intro w hSw; (try dsimp only at hSw); go_simp; (try with_reducible rfl))); (try simp only [Act.put, List.getElem_toArray, List.getElem_cons_succ, List.getElem_cons_zero, List.setIfInBounds_toArray, List.set_cons_zero, List.set_cons_succ])
      refine wpAnyH_done (by kernel_rfl) ?_ _
      have A4 := Lib.hid (Bt A3.out hHeld.1)
      have B4 := Lib.hid (B0.out.trans (A4.out.mono B0.out.size))
      clear x1 x2 x3 x4 x5 hl3 hHeld
      obtain ⟨x1, x2, x3, x4, x5⟩ := (G0.out.below A4.out).cells
      have hl4 := cell_lt x1
      go_wp2_with fail
      refine (PF.out _ B4.out).mono ?_
      rintro e w5 ⟨rfl, hb5⟩
      have A5 := Lib.hid (Bt (Bt A4.out hb5) (Ba (Below.refl _ w5) (.cells #[(.int .i64 px), (.int .i64 py)] 25)))
      have K5 := Lib.hid (heap_alloc_new w5 (.cells #[(.int .i64 px), (.int .i64 py)] 25))
      clear hb5 x1 x2 x3 x4 x5 hl4
      obtain ⟨x1, x2, x3, x4, x5⟩ := (G0.out.below A5.out).cells
      have hl5 := cell_lt x1
      go_wp2_with fail
      refine (RR.out _).mono ?_
      rintro e w6 ⟨rfl, hb6⟩
      have A6 := Lib.hid (Bt A5.out hb6)
      have K6 := Lib.hid (blk_below K5.out hb6)
      have B6 := Lib.hid (B0.out.trans (A6.out.mono B0.out.size))
      clear hb6 x1 x2 x3 x4 x5 hl5
      obtain ⟨y1, y2, -, -⟩ := two_cells K6.out
      have hm6 := cell_lt y1
      obtain ⟨x1, x2, x3, x4, x5⟩ := (G0.out.below A6.out).cells
      have hl6 := cell_lt x1
      go_wp2_with fail
      refine (TB.out _).mono ?_
      rintro e w7 ⟨rfl, hb7⟩
      have K7 := Lib.hid (blk_below (blk_below K6.out hb7) (Ba (Below.refl _ w7) (.cells #[.int .i64 px, .int .i64 py, .int .i64 pz, .int .i64 pw] 37)))
      have B7 := Lib.hid (Bt B6.out hb7)
      clear hb7 y1 y2 x1 x2 x3 x4 x5 hl6 hm6
      obtain ⟨y1, y2, -, -⟩ := two_cells K7.out
      have hm7 := cell_lt y1
      go_wp2
      go_ret
      exact ⟨rfl, by have := B7.out; exact (by repeat (first | with_reducible exact Below.refl _ _ | with_reducible assumption | with_reducible apply Ba | with_reducible apply Bd | with_reducible apply Bn | with_reducible apply Bg | (with_reducible refine Bs ?_ (by first | (simp; done) | (simp; omega)) _) | (with_reducible refine Bt ?_ (by assumption)) | (with_reducible refine Bt ?_ (Gr.below (by assumption)))))⟩
end Go.Proofs.YtmeinjkpbijaeaaDoor
