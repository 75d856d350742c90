import Derived.Test.YtahichjiphjapaaGreatDoorZ28

/-
  Package quad: a box's cell.
-/
namespace Go.Proofs.YtahichjiphjapaaGreatDoor
set_option linter.unusedSimpArgs false
set_option linter.unusedVariables false
open Go.RowKit Go.Sort Go.Lib Go.Shelf

set_option maxHeartbeats 2000000 in
set_option maxRecDepth 100000 in
theorem qOf_ok (x1 x2 x3 x4 : Int) (w : World) (hR : okR (x1, x2, x3, x4) = true) (hW : okW (x1, x2, x3, x4) = true) :
    Calls Tryz.prog 44 #[.agg #[.int .i64 x1, .int .i64 x2, .int .i64 x3, .int .i64 x4]] w fun e w' => e = .returned (.tuple #[clV (cellE (x1, x2, x3, x4)), .nilIface]) ∧ RowKit.Below w.heap.size w w' := by
  have b0 := Ba (Ba (Below.refl _ w) (.cells #[.int .i64 x1, .int .i64 x2, .int .i64 x3, .int .i64 x4] 45)) (.cells #[.int .i64 0, .int .i64 0, .int .i64 0] 87)
  obtain ⟨k2, k3⟩ := three_blk (w := w) (o1 := .cells #[.int .i64 x1, .int .i64 x2, .int .i64 x3, .int .i64 x4] 45) (o2 := .cells #[.int .i64 0, .int .i64 0, .int .i64 0] 87) (Below.refl _ _)
  have CY := Lib.hid (fun W => centre_yes x1 x2 x3 x4 W ((right_okR _ _ _ _).trans hR))
  have IN := Lib.hid (fun W => inside_any x1 x2 x3 x4 (-2097152) (-2097152) 2097152 2097152 W)
  rw [inside_is, hR, Bool.true_and] at IN
  rw [hW] at IN
  have e0 : errB (x1, x2, x3, x4) = 0 := errB_zero.2 ⟨hR, hW⟩
  have e1 : cellE (x1, x2, x3, x4) = cellB (x1, x2, x3, x4) := by unfold cellE; rw [if_pos e0]
  have hbd := okW_iff.1 hW
  have hbr := okR_iff.1 hR
  dsimp only at hbd hbr
  have ed : dW (max (x3 - x1) (x4 - x2)) 8 = depthB (x1, x2, x3, x4) := dW_dK _ _ 8
  have hd8 := depth_le (x1, x2, x3, x4)
  have DC := Lib.hid (fun W => qdepth_call (max (x3 - x1) (x4 - x2)) W)
  rw [ed] at DC
  rw [e1, show cellB (x1, x2, x3, x4) = ((depthB (x1, x2, x3, x4) : Int), colI ((x1 + x3) / 2) (depthB (x1, x2, x3, x4)), colI ((x2 + x4) / 2) (depthB (x1, x2, x3, x4))) from rfl]
  generalize depthB (x1, x2, x3, x4) = D at *
  have n1 : -2097152 ≤ (x1 + x3) / 2 ∧ (x1 + x3) / 2 ≤ 2097152 := by omega
  have n2 : -2097152 ≤ (x2 + x4) / 2 ∧ (x2 + x4) / 2 ≤ 2097152 := by omega
  have C1 := Lib.hid (fun W => qcolumn_call ((x1 + x3) / 2) D hd8 n1.1 n1.2 W)
  have C2 := Lib.hid (fun W => qcolumn_call ((x2 + x4) / 2) D hd8 n2.1 n2.2 W)
  generalize hm1 : (x1 + x3) / 2 = m1 at *
  generalize hm2 : (x2 + x4) / 2 = m2 at *
  generalize colI m1 D = c1 at *
  generalize colI m2 D = c2 at *
  have mx : (if x3 - x1 < x4 - x2 then x4 - x2 else x3 - x1) = max (x3 - x1) (x4 - x2) := by split <;> omega
  generalize hmx : max (x3 - x1) (x4 - x2) = mm at *
  clear e0 e1 ed hR hW hbr
  go_enter Tryz.func44, Tryz.ntmps44
  go_wp2_with fail
  refine (CY.out _).mono ?_
  rintro e w1 ⟨rfl, hb1⟩
  have B1 := Lib.hid (Bt b0 hb1)
  have k4 := blk_below k3 hb1
  have k5 := blk_below k2 hb1
  obtain ⟨t1, t2, t3, t4⟩ := cells4 k5
  have hl1 := cell_lt t1
  have K4 := Lib.hid k4
  have K5 := Lib.hid k5
  clear hb1 k2 k3 k4 k5 b0
  go_wp2_with fail
  refine (IN.out _).mono ?_
  rintro e w2 ⟨rfl, hb2⟩
  have b2 := (by have := B1.out; exact (by repeat (first | with_reducible exact Below.refl _ _ | with_reducible assumption | with_reducible apply Ba | with_reducible apply Bd | with_reducible apply Bn | with_reducible apply Bg | (with_reducible refine Bs ?_ (by first | (simp; done) | (simp; omega)) _) | (with_reducible refine Bt ?_ (by assumption)) | (with_reducible refine Bt ?_ (Gr.below (by assumption))))) : RowKit.Below w.heap.size w w2)
  have B2 := Lib.hid b2
  have k6 := blk_below (blk_below K4.out (Ba (Below.refl _ w1) (.cells #[.int .i64 m1, .int .i64 m2] 24))) hb2
  have k7 := blk_below (blk_below K5.out (Ba (Below.refl _ w1) (.cells #[.int .i64 m1, .int .i64 m2] 24))) hb2
  have k8 := blk_below (heap_alloc_new w1 (.cells #[.int .i64 m1, .int .i64 m2] 24)) hb2
  clear t1 t2 t3 t4
  obtain ⟨t1, t2, t3, t4⟩ := cells4 k7
  have p12 : w2.cell? ⟨w1.heap.size, 0, none⟩ = some (.int .i64 m1) ∧ w2.cell? ⟨w1.heap.size, 1, none⟩ = some (.int .i64 m2) := by
    refine ⟨?_, ?_⟩ <;> simp [World.cell?, k8]
  obtain ⟨p1, p2⟩ := p12
  obtain ⟨⟨r1, r2, r3⟩, f1, f2, f3⟩ := cells3 k6
  have hlp := cell_lt p1
  have hlr := cell_lt r1
  have K6 := Lib.hid k6
  clear hb2 b2 k6 k7 k8
  go_wp2_with fail
  refine (DC.out _).mono ?_
  rintro e w3 ⟨rfl, rfl⟩
  go_wp2_with fail
  refine wp_region_held_drew (S := fun W => Tch (fun b => b = w.heap.size + 1) w2 W ∧ W.cell? ⟨w1.heap.size, 0, none⟩ = some (.int .i64 m1) ∧ W.cell? ⟨w1.heap.size, 1, none⟩ = some (.int .i64 m2) ∧ ∃ a b c, W.heap[w.heap.size + 1]? = some (.cells #[a, b, c] 87 (0, 0))) (by kernel_rfl) ⟨(Tch.refl _ _).drew, p1, p2, _, _, _, K6.out⟩ (fun hHeld => ?_)
  (refine wpAnyH_take (i := 0) (v := ?_) rfl (by kernel_rfl) (by kernel_rfl) (by kernel_rfl) (fun _ _ _ h => h) (Or.inl ⟨by rfl, ?rt⟩) (by assumption) ?_; case rt => (intro w hSw; (try dsimp only at hSw); go_simp; (try with_reducible rfl))); (try simp only [Act.put, List.getElem_toArray, List.getElem_cons_succ, List.getElem_cons_zero, List.setIfInBounds_toArray, List.set_cons_zero, List.set_cons_succ])
  (refine wpAnyH_take (i := 1) (v := ?_) rfl (by kernel_rfl) (by kernel_rfl) (by kernel_rfl) (fun _ _ _ h => h) (Or.inl ⟨by rfl, ?rt⟩) (by assumption) ?_; case rt => (intro w hSw; (try dsimp only at hSw); go_simp; (try with_reducible rfl))); (try simp only [Act.put, List.getElem_toArray, List.getElem_cons_succ, List.getElem_cons_zero, List.setIfInBounds_toArray, List.set_cons_zero, List.set_cons_succ])
  (refine wpAnyH_take (i := 2) (v := ?_) rfl (by kernel_rfl) (by kernel_rfl) (by kernel_rfl) (fun _ _ _ h => h) (Or.inl ⟨by rfl, ?rt⟩) (by assumption) ?_; case rt => (intro w hSw; (try dsimp only at hSw); go_simp; (try with_reducible rfl))); (try simp only [Act.put, List.getElem_toArray, List.getElem_cons_succ, List.getElem_cons_zero, List.setIfInBounds_toArray, List.set_cons_zero, List.set_cons_succ])
  (refine wpAnyH_take (i := 3) (v := ?_) rfl (by kernel_rfl) (by kernel_rfl) (by kernel_rfl) (fun _ _ _ h => h) (Or.inl ⟨by rfl, ?rt⟩) (by assumption) ?_; case rt => (intro w hSw; (try dsimp only at hSw); go_simp; (try with_reducible rfl))); (try simp only [Act.put, List.getElem_toArray, List.getElem_cons_succ, List.getElem_cons_zero, List.setIfInBounds_toArray, List.set_cons_zero, List.set_cons_succ])
  (refine wpAnyH_take (i := 5) (v := ?_) rfl (by kernel_rfl) (by kernel_rfl) (by kernel_rfl) (fun _ _ _ h => h) (Or.inl ⟨by rfl, ?rt⟩) (by assumption) ?_; case rt => (intro w hSw; (try dsimp only at hSw); go_simp; (try with_reducible rfl))); (try simp only [Act.put, List.getElem_toArray, List.getElem_cons_succ, List.getElem_cons_zero, List.setIfInBounds_toArray, List.set_cons_zero, List.set_cons_succ])
  (refine wpAnyH_take (i := 6) (v := ?_) rfl (by kernel_rfl) (by kernel_rfl) (by kernel_rfl) (fun _ _ _ h => h) (Or.inl ⟨by rfl, ?rt⟩) (by assumption) ?_; case rt => (intro w hSw; (try dsimp only at hSw); go_simp; (try with_reducible rfl))); (try simp only [Act.put, List.getElem_toArray, List.getElem_cons_succ, List.getElem_cons_zero, List.setIfInBounds_toArray, List.set_cons_zero, List.set_cons_succ])
  (refine wpAnyH_take (i := 7) (v := ?_) rfl (by kernel_rfl) (by kernel_rfl) (by kernel_rfl) (fun _ _ _ h => h) (Or.inl ⟨by rfl, ?rt⟩) (by assumption) ?_; case rt => (intro w hSw; (try dsimp only at hSw); go_simp; (try with_reducible rfl))); (try simp only [Act.put, List.getElem_toArray, List.getElem_cons_succ, List.getElem_cons_zero, List.setIfInBounds_toArray, List.set_cons_zero, List.set_cons_succ])
  (refine wpAnyH_ready (rs := [4]) (by kernel_rfl) (by simp) ?_; refine AllReadyH.cons rfl (fun K hK => ?_) AllReadyH.nil; go_simp; refine (C1.out _).mono ?_; rintro e w4 ⟨rfl, hb4⟩; refine hK.out _ _ ⟨hHeld.1.bel hb4, Bc hb4 (cell_lt hHeld.2.1) hHeld.2.1, Bc hb4 (cell_lt hHeld.2.2.1) hHeld.2.2.1, (by obtain ⟨a, b, c, k9⟩ := hHeld.2.2.2; exact ⟨a, b, c, blk_below k9 hb4⟩)⟩ (fun hHeld => ?_); clear hK K); (try simp only [Act.put, List.getElem_toArray, List.getElem_cons_succ, List.getElem_cons_zero, List.setIfInBounds_toArray, List.set_cons_zero, List.set_cons_succ])
  (refine wpAnyH_ready (rs := [8]) (by kernel_rfl) (by simp) ?_; refine AllReadyH.cons rfl (fun K hK => ?_) AllReadyH.nil; go_simp; refine (C2.out _).mono ?_; rintro e w4 ⟨rfl, hb4⟩; refine hK.out _ _ ⟨hHeld.1.bel hb4, Bc hb4 (cell_lt hHeld.2.1) hHeld.2.1, Bc hb4 (cell_lt hHeld.2.2.1) hHeld.2.2.1, (by obtain ⟨a, b, c, k9⟩ := hHeld.2.2.2; exact ⟨a, b, c, blk_below k9 hb4⟩)⟩ (fun hHeld => ?_); clear hK K); (try simp only [Act.put, List.getElem_toArray, List.getElem_cons_succ, List.getElem_cons_zero, List.setIfInBounds_toArray, List.set_cons_zero, List.set_cons_succ])
  (refine wpAnyH_take (i := 9) (v := ?_) rfl (by kernel_rfl) (by kernel_rfl) (by kernel_rfl) (fun _ _ _ h => h) (Or.inl ⟨by rfl, ?rt⟩) (by assumption) ?_; case rt => (intro w hSw; (try dsimp only at hSw); go_simp; (try with_reducible rfl))); (try simp only [Act.put, List.getElem_toArray, List.getElem_cons_succ, List.getElem_cons_zero, List.setIfInBounds_toArray, List.set_cons_zero, List.set_cons_succ])
  obtain ⟨hT, q1, q2, a, b, c, k9⟩ := hHeld
  obtain ⟨⟨s1, s2, s3⟩, g1, g2, g3⟩ := cells3 k9
  have HT := Lib.hid hT
  have hne : w1.heap.size ≠ w.heap.size + 1 := fun e => by have := K4.out; rw [← e] at this; exact absurd (Array.getElem?_eq_some_iff.1 this).1 (Nat.lt_irrefl _)
  clear hT
  (refine wpAnyH_ready (rs := [10]) (by kernel_rfl) (by simp) ?_; refine AllReadyH.cons rfl (fun K hK => ?_) AllReadyH.nil; go_simp)
  refine hK.out _ _ ⟨tch3 HT.out rfl _ _ _, by simp [World.cell?_setCell_other, hne, q1], by simp [World.cell?_setCell_other, hne, q2], _, _, _, setC3 k9⟩ (fun hHeld => ?_)
  clear hK K
  (try simp only [Act.put, List.getElem_toArray, List.getElem_cons_succ, List.getElem_cons_zero, List.setIfInBounds_toArray, List.set_cons_zero, List.set_cons_succ])
  have hB := Lib.hid (show RowKit.Below w.heap.size w (((w4.setCell ⟨w.heap.size + 1, 0, none⟩ (.int .i64 (D : Nat))).setCell ⟨w.heap.size + 1, 1, none⟩ (.int .i64 c1)).setCell ⟨w.heap.size + 1, 2, none⟩ (.int .i64 c2)) from B2.out.trans (Tch.below (tch3 HT.out rfl _ _ _) (fun b e => by omega) (Nat.le_of_lt (by omega))))
  obtain ⟨⟨s1, s2, s3⟩, g1, g2, g3⟩ := cells3 (setC3 (x := .int .i64 (D : Nat)) (y := .int .i64 c1) (z := .int .i64 c2) k9)
  generalize (((w4.setCell ⟨w.heap.size + 1, 0, none⟩ (.int .i64 (D : Nat))).setCell ⟨w.heap.size + 1, 1, none⟩ (.int .i64 c1)).setCell ⟨w.heap.size + 1, 2, none⟩ (.int .i64 c2)) = w5 at *
  (refine wpAnyH_take (i := 11) (v := ?_) rfl (by kernel_rfl) (by kernel_rfl) (by kernel_rfl) (fun _ _ _ h => h) (Or.inl ⟨by rfl, ?rt⟩) (by assumption) ?_; case rt => (intro w hSw; (try dsimp only at hSw); go_simp; (try with_reducible rfl))); (try simp only [Act.put, List.getElem_toArray, List.getElem_cons_succ, List.getElem_cons_zero, List.setIfInBounds_toArray, List.set_cons_zero, List.set_cons_succ])
  refine wpAnyH_done (by kernel_rfl) ?_ _
  go_wp2
  exact bodyPost_ret (v := .tuple #[clV ((D : Int), c1, c2), .nilIface]) (by simp [results, Tryz.results44, go_sem, *]) rfl ⟨rfl, hB.out⟩
set_option maxHeartbeats 2000000 in
set_option maxRecDepth 100000 in
theorem qOf_call {eR eN eF : TypeId × Value} (x1 x2 x3 x4 : Int) (w : World) (h : Er3 w eR eN eF) :
    Calls Tryz.prog 44 #[.agg #[.int .i64 x1, .int .i64 x2, .int .i64 x3, .int .i64 x4]] w fun e w' => e = .returned (.tuple #[clV (cellE (x1, x2, x3, x4)), errV eR eF (x1, x2, x3, x4)]) ∧ RowKit.Below w.heap.size w w' := by
  have hltF := cell_lt h.eF
  have hltR := cell_lt h.eR
  have HF := h.eF
  have HR := h.eR
  have b0 := Ba (Ba (Below.refl _ w) (.cells #[.int .i64 x1, .int .i64 x2, .int .i64 x3, .int .i64 x4] 45)) (.cells #[.int .i64 0, .int .i64 0, .int .i64 0] 87)
  obtain ⟨k2, k3⟩ := three_blk (w := w) (o1 := .cells #[.int .i64 x1, .int .i64 x2, .int .i64 x3, .int .i64 x4] 45) (o2 := .cells #[.int .i64 0, .int .i64 0, .int .i64 0] 87) (Below.refl _ _)
  cases hR : okR (x1, x2, x3, x4) with
  | false =>
    have CN := Lib.hid (fun W hg => centre_no x1 x2 x3 x4 W eF hg ((right_okR _ _ _ _).trans hR))
    have e1 : cellE (x1, x2, x3, x4) = (0, 0, 0) := by simp [cellE, errB, hR]
    have e2 : errV eR eF (x1, x2, x3, x4) = .iface eF.1 eF.2 := by simp [errV, errB, hR]
    rw [e1, e2]
    clear e1 e2 hR
    go_enter Tryz.func44, Tryz.ntmps44
    go_wp2_with fail
    refine (CN.out _ (Bc b0 hltF HF)).mono ?_
    rintro e w1 ⟨rfl, hb1⟩
    have B1 := Lib.hid (Bt b0 hb1)
    have k4 := blk_below k3 hb1
    obtain ⟨⟨r1, r2, r3⟩, f1, f2, f3⟩ := cells3 k4
    have hl := cell_lt r1
    clear hb1 k2 k3 k4 b0 HF HR h
    go_wp2
    exact bodyPost_ret (v := .tuple #[clV (0, 0, 0), .iface eF.1 eF.2]) (by simp [results, Tryz.results44, go_sem, *]) rfl ⟨rfl, (by have := B1.out; exact (by repeat (first | with_reducible exact Below.refl _ _ | with_reducible assumption | with_reducible apply Ba | with_reducible apply Bd | with_reducible apply Bn | with_reducible apply Bg | (with_reducible refine Bs ?_ (by first | (simp; done) | (simp; omega)) _) | (with_reducible refine Bt ?_ (by assumption)) | (with_reducible refine Bt ?_ (Gr.below (by assumption))))))⟩
  | true =>
    have CY := Lib.hid (fun W => centre_yes x1 x2 x3 x4 W ((right_okR _ _ _ _).trans hR))
    have IN := Lib.hid (fun W => inside_any x1 x2 x3 x4 (-2097152) (-2097152) 2097152 2097152 W)
    rw [inside_is, hR, Bool.true_and] at IN
    cases hW : okW (x1, x2, x3, x4) with
    | false =>
      rw [hW] at IN
      have e1 : cellE (x1, x2, x3, x4) = (0, 0, 0) := by simp [cellE, errB, hR, hW]
      have e2 : errV eR eF (x1, x2, x3, x4) = .iface eR.1 eR.2 := by simp [errV, errB, hR, hW]
      rw [e1, e2]
      clear e1 e2 hR hW
      generalize (x1 + x3) / 2 = m1 at *
      generalize (x2 + x4) / 2 = m2 at *
      go_enter Tryz.func44, Tryz.ntmps44
      go_wp2_with fail
      refine (CY.out _).mono ?_
      rintro e w1 ⟨rfl, hb1⟩
      have B1 := Lib.hid (Bt b0 hb1)
      have k4 := blk_below k3 hb1
      have k5 := blk_below k2 hb1
      obtain ⟨t1, t2, t3, t4⟩ := cells4 k5
      have hl1 := cell_lt t1
      have K4 := Lib.hid k4
      clear hb1 k2 k3 k4 k5 b0 h
      go_wp2_with fail
      refine (IN.out _).mono ?_
      rintro e w2 ⟨rfl, hb2⟩
      have b2 := (by have := B1.out; exact (by repeat (first | with_reducible exact Below.refl _ _ | with_reducible assumption | with_reducible apply Ba | with_reducible apply Bd | with_reducible apply Bn | with_reducible apply Bg | (with_reducible refine Bs ?_ (by first | (simp; done) | (simp; omega)) _) | (with_reducible refine Bt ?_ (by assumption)) | (with_reducible refine Bt ?_ (Gr.below (by assumption))))) : RowKit.Below w.heap.size w w2)
      have B2 := Lib.hid b2
      have hg := Bc b2 hltR HR
      have k6 := blk_below (blk_below K4.out (Ba (Below.refl _ w1) (.cells #[.int .i64 m1, .int .i64 m2] 24))) hb2
      obtain ⟨⟨r1, r2, r3⟩, f1, f2, f3⟩ := cells3 k6
      clear hb2 b2 k6 HR HF
      go_wp2
      go_region
      go_wp2
      exact bodyPost_ret (v := .tuple #[clV (0, 0, 0), .iface eR.1 eR.2]) (by simp [results, Tryz.results44, go_sem, *]) rfl ⟨rfl, (by have := B2.out; exact (by repeat (first | with_reducible exact Below.refl _ _ | with_reducible assumption | with_reducible apply Ba | with_reducible apply Bd | with_reducible apply Bn | with_reducible apply Bg | (with_reducible refine Bs ?_ (by first | (simp; done) | (simp; omega)) _) | (with_reducible refine Bt ?_ (by assumption)) | (with_reducible refine Bt ?_ (Gr.below (by assumption))))))⟩
    | true =>
      have e2 : errV eR eF (x1, x2, x3, x4) = .nilIface := by unfold errV; rw [if_pos (errB_zero.2 ⟨hR, hW⟩)]
      rw [e2]
      exact qOf_ok x1 x2 x3 x4 w hR hW
end Go.Proofs.YtahichjiphjapaaGreatDoor
