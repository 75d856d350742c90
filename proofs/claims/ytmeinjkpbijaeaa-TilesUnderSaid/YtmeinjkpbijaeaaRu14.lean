/-
  The reference of tiles: Under, At.
-/
import Derived.Test.YtmeinjkpbijaeaaRt14
namespace Go.Proofs.Ytmeinjkpbijaeaa
set_option linter.unusedSimpArgs false
set_option linter.unusedVariables false
open Go.RowKit Go.Sort Go.Lib Go.Shelf

set_option maxHeartbeats 4000000 in
set_option maxRecDepth 100000 in
theorem runder_call (g : Gd) (b : Bx4) (w : World) : Calls Try.prog 7 #[grV g, bxV b] w fun e w' => ∃ v, e = .returned v ∧ OwnI w' w.heap.size v (und g b) ∧ RowKit.Below w.heap.size w w' := by
  cases hg : grOk g
  · rw [und_off (b := b) (by rw [hg]; rfl)]
    obtain ⟨W, H, S, X, Y⟩ := g
    obtain ⟨b1, b2, b3, b4⟩ := b
    have RC := Lib.hid (fun W' => rgright_any W H S X Y W')
    rw [hg] at RC
    have O0 := Lib.hid (World.ownsRow_made (base := w.heap.size) (e := 3) (size := 1) ((w.alloc (.cells #[.int .i64 W, .int .i64 H, .int .i64 S, .int .i64 X, .int .i64 Y] 23)).alloc (.cells #[.int .i64 b1, .int .i64 b2, .int .i64 b3, .int .i64 b4] 25)) #[] 0 (by simp; omega) (Nat.zero_le _) (by simp))
    rw [show ((w.alloc (.cells #[.int .i64 W, .int .i64 H, .int .i64 S, .int .i64 X, .int .i64 Y] 23)).alloc (.cells #[.int .i64 b1, .int .i64 b2, .int .i64 b3, .int .i64 b4] 25)).heap.size = w.heap.size + 1 + 1 by simp] at O0
    go_enter Try.func7, Try.ntmps7
    go_wp2_with fail
    refine (RC.out _).mono ?_
    rintro e w1 ⟨rfl, hb1⟩
    have O1 := Lib.hid (row_below O0.out hb1)
    go_wp2
    go_ret
    exact ⟨_, rfl, O1.out, (by repeat (first | with_reducible exact Below.refl _ _ | with_reducible assumption | with_reducible apply Ba | with_reducible apply Bd | with_reducible apply Bn | with_reducible apply Bg | (with_reducible refine Bs ?_ (by first | (simp; done) | (simp; omega)) _) | (with_reducible refine Bt ?_ (by assumption)) | (with_reducible refine Bt ?_ (Gr.below (by assumption)))))⟩
  · cases hb : okX b
    · rw [und_off (b := b) (by rw [hg, hb]; rfl)]
      obtain ⟨W, H, S, X, Y⟩ := g
      obtain ⟨b1, b2, b3, b4⟩ := b
      have RC := Lib.hid (fun W' => rgright_any W H S X Y W')
      have PC := Lib.hid (fun W' => rright_any b1 b2 b3 b4 W')
      rw [hg] at RC
      rw [rright_okX, hb] at PC
      have O0 := Lib.hid (World.ownsRow_made (base := w.heap.size) (e := 3) (size := 1) ((w.alloc (.cells #[.int .i64 W, .int .i64 H, .int .i64 S, .int .i64 X, .int .i64 Y] 23)).alloc (.cells #[.int .i64 b1, .int .i64 b2, .int .i64 b3, .int .i64 b4] 25)) #[] 0 (by simp; omega) (Nat.zero_le _) (by simp))
      rw [show ((w.alloc (.cells #[.int .i64 W, .int .i64 H, .int .i64 S, .int .i64 X, .int .i64 Y] 23)).alloc (.cells #[.int .i64 b1, .int .i64 b2, .int .i64 b3, .int .i64 b4] 25)).heap.size = w.heap.size + 1 + 1 by simp] at O0
      go_enter Try.func7, Try.ntmps7
      go_wp2_with fail
      refine (RC.out _).mono ?_
      rintro e w1 ⟨rfl, hb1⟩
      have O1 := Lib.hid (row_below O0.out hb1)
      have A1 := Lib.hid (Bt (Ba (Below.refl _ ((w.alloc (.cells #[.int .i64 W, .int .i64 H, .int .i64 S, .int .i64 X, .int .i64 Y] 23)).alloc (.cells #[.int .i64 b1, .int .i64 b2, .int .i64 b3, .int .i64 b4] 25))) (.cells #[] 3)) hb1)
      obtain ⟨k1, k2, z1, z2⟩ := two_blk A1.out
      obtain ⟨y1, y2, y3, y4⟩ := cells4 k2
      have B1 := Lib.hid (by exact (by repeat (first | with_reducible exact Below.refl _ _ | with_reducible assumption | with_reducible apply Ba | with_reducible apply Bd | with_reducible apply Bn | with_reducible apply Bg | (with_reducible refine Bs ?_ (by first | (simp; done) | (simp; omega)) _) | (with_reducible refine Bt ?_ (by assumption)) | (with_reducible refine Bt ?_ (Gr.below (by assumption))))) : RowKit.Below w.heap.size w w1)
      clear hb1 k1 k2 O0
      go_wp2_with fail
      refine (PC.out _).mono ?_
      rintro e w2 ⟨rfl, hb2⟩
      have B2 := Lib.hid (Bt B1.out hb2)
      have O2 := Lib.hid (row_below O1.out hb2)
      clear hb2
      go_wp2
      go_ret
      exact ⟨_, rfl, O2.out, B2.out⟩
    · have hu : und g b = undK g b (ntl g) := by unfold und; rw [hg, hb]; rfl
      rw [hu]
      have hn := ntl_cast hg
      obtain ⟨W, H, S, X, Y⟩ := g
      obtain ⟨b1, b2, b3, b4⟩ := b
      have RT := Lib.hid (fun k hk W' => rtile_any ⟨W, H, S, X, Y⟩ k W' hg hk)
      have RM := Lib.hid (fun k W' => rmeets_hit ⟨W, H, S, X, Y⟩ (b1, b2, b3, b4) k W')
      have RC := Lib.hid (fun W' => rgright_any W H S X Y W')
      have PC := Lib.hid (fun W' => rright_any b1 b2 b3 b4 W')
      rw [hg] at RC
      rw [rright_okX, hb] at PC
      have EY := Lib.hid (fun k => @undK_yes ⟨W, H, S, X, Y⟩ (b1, b2, b3, b4) k)
      have EN := Lib.hid (fun k => @undK_no ⟨W, H, S, X, Y⟩ (b1, b2, b3, b4) k)
      have EL := Lib.hid (fun k => undK_len ⟨W, H, S, X, Y⟩ (b1, b2, b3, b4) k)
      have E0 : Hid (undK ⟨W, H, S, X, Y⟩ (b1, b2, b3, b4) 0 = []) := Lib.hid rfl
      generalize undK ⟨W, H, S, X, Y⟩ (b1, b2, b3, b4) = U at *
      generalize hitT ⟨W, H, S, X, Y⟩ (b1, b2, b3, b4) = hit at *
      generalize tlB ⟨W, H, S, X, Y⟩ = tl at *
      generalize ntl ⟨W, H, S, X, Y⟩ = n at *
      dsimp only at hn
      obtain ⟨hn1, hn2, hn3⟩ := hn
      have hN := hn1.symm
      clear hn1 hg hb hu
      have O0 := Lib.hid (World.ownsRow_made (base := ((w.alloc (.cells #[.int .i64 W, .int .i64 H, .int .i64 S, .int .i64 X, .int .i64 Y] 23)).alloc (.cells #[.int .i64 b1, .int .i64 b2, .int .i64 b3, .int .i64 b4] 25)).heap.size) (e := 3) (size := 1) ((w.alloc (.cells #[.int .i64 W, .int .i64 H, .int .i64 S, .int .i64 X, .int .i64 Y] 23)).alloc (.cells #[.int .i64 b1, .int .i64 b2, .int .i64 b3, .int .i64 b4] 25)) #[] 0 (Nat.le_refl _) (Nat.zero_le _) (by simp))
      go_enter Try.func7, Try.ntmps7
      go_wp2_with fail
      refine (RC.out _).mono ?_
      rintro e w1 ⟨rfl, hb1⟩
      have O1 := Lib.hid (row_below O0.out hb1)
      have A1 := Lib.hid (Bt (Ba (Below.refl _ ((w.alloc (.cells #[.int .i64 W, .int .i64 H, .int .i64 S, .int .i64 X, .int .i64 Y] 23)).alloc (.cells #[.int .i64 b1, .int .i64 b2, .int .i64 b3, .int .i64 b4] 25))) (.cells #[] 3)) hb1)
      obtain ⟨k1, k2, z1, z2⟩ := two_blk A1.out
      obtain ⟨y1, y2, y3, y4⟩ := cells4 k2
      clear hb1 k1 k2 O0
      go_wp2_with fail
      refine (PC.out _).mono ?_
      rintro e w2 ⟨rfl, hb2⟩
      have A2 := Lib.hid (Bt A1.out hb2)
      have O2 := Lib.hid (row_below O1.out hb2)
      clear hb2 O1 A1 y1 y2 y3 y4 z1 z2
      go_wp2_with fail
      go_loopw [5, 6] (fun v i wr => ∃ k : Nat, k ≤ n ∧ i = .int .i64 k ∧ RowKit.Below ((w.alloc (.cells #[.int .i64 W, .int .i64 H, .int .i64 S, .int .i64 X, .int .i64 Y] 23)).alloc (.cells #[.int .i64 b1, .int .i64 b2, .int .i64 b3, .int .i64 b4] 25)).heap.size ((w.alloc (.cells #[.int .i64 W, .int .i64 H, .int .i64 S, .int .i64 X, .int .i64 Y] 23)).alloc (.cells #[.int .i64 b1, .int .i64 b2, .int .i64 b3, .int .i64 b4] 25)) wr ∧ OwnI wr ((w.alloc (.cells #[.int .i64 W, .int .i64 H, .int .i64 S, .int .i64 X, .int .i64 Y] 23)).alloc (.cells #[.int .i64 b1, .int .i64 b2, .int .i64 b3, .int .i64 b4] 25)).heap.size v (U k)) (fun _ i _ => n - (intOf i).toNat)
      case atStart => exact ⟨0, Nat.zero_le _, rfl, A2.out, by have := O2.out; rw [E0.out]; rw [show ((w.alloc (.cells #[.int .i64 W, .int .i64 H, .int .i64 S, .int .i64 X, .int .i64 Y] 23)).alloc (.cells #[.int .i64 b1, .int .i64 b2, .int .i64 b3, .int .i64 b4] 25)).heap.size = w.heap.size + 1 + 1 by simp] at this ⊢; exact this⟩
      case round =>
        obtain ⟨k, hk, rfl, hb, ho⟩ := hrel
        obtain ⟨k1, k2, z1, z2⟩ := two_blk hb
        obtain ⟨x1, x2, x3, x4, x5⟩ := cells5 k1
        obtain ⟨y1, y2, y3, y4⟩ := cells4 k2
        have HB := Lib.hid hb
        have HO := Lib.hid ho
        clear hb ho k1 k2
        by_cases hkn : k < n
        · have RTk := Lib.hid (RT.out k hkn)
          have RMk := Lib.hid (RM.out k)
          have ELk := Lib.hid (EL.out k)
          have EYk := Lib.hid (EY.out k)
          have ENk := Lib.hid (EN.out k)
          generalize hit k = hh at *
          obtain ⟨q1, q2, q3, q4⟩ := tl k
          have hkz : (k : Int) < (n : Int) := by omega
          go_wp2_with fail
          refine wp_region_held_drew (S := (fun w' => Below (wr).heap.size (wr) w' ∧ ∀ b_1 o, b_1 < (wr).heap.size → w'.cell? ⟨b_1, o, none⟩ = (wr).cell? ⟨b_1, o, none⟩)) (by kernel_rfl) (keep0 _) (fun hHeld => ?_)
          (refine wpAnyH_take (i := 0) (v := ?_) rfl (by kernel_rfl) (by kernel_rfl) (by kernel_rfl) (fun _ _ _ h => h) (Or.inl ⟨by rfl, ?rt⟩) (by assumption) ?_; case rt => (intro w hSw; (try dsimp only at hSw); go_simp; (try with_reducible rfl))); (try simp only [Act.put, List.getElem_toArray, List.getElem_cons_succ, List.getElem_cons_zero, List.setIfInBounds_toArray, List.set_cons_zero, List.set_cons_succ])
          (refine wpAnyH_take (i := 1) (v := ?_) rfl (by kernel_rfl) (by kernel_rfl) (by kernel_rfl) (fun _ _ _ h => h) (Or.inl ⟨by rfl, ?rt⟩) (by assumption) ?_; case rt => (intro w hSw; (try dsimp only at hSw); go_simp; (try with_reducible rfl))); (try simp only [Act.put, List.getElem_toArray, List.getElem_cons_succ, List.getElem_cons_zero, List.setIfInBounds_toArray, List.set_cons_zero, List.set_cons_succ])
          (refine wpAnyH_take (i := 3) (v := ?_) rfl (by kernel_rfl) (by kernel_rfl) (by kernel_rfl) (fun _ _ _ h => h) (Or.inl ⟨by rfl, ?rt⟩) (by assumption) ?_; case rt => (intro w hSw; (try dsimp only at hSw); go_simp; (try with_reducible rfl))); (try simp only [Act.put, List.getElem_toArray, List.getElem_cons_succ, List.getElem_cons_zero, List.setIfInBounds_toArray, List.set_cons_zero, List.set_cons_succ])
          (refine wpAnyH_ready (rs := [2]) (by kernel_rfl) (by simp) ?_; refine AllReadyH.cons rfl (fun K hK => ?_) AllReadyH.nil; go_simp; refine (RTk.out _).mono ?_; rintro e w1 ⟨rfl, hb1⟩; refine hK.out _ _ (keepB (by assumption) hb1) (fun hHeld => ?_); clear hK K); (try simp only [Act.put, List.getElem_toArray, List.getElem_cons_succ, List.getElem_cons_zero, List.setIfInBounds_toArray, List.set_cons_zero, List.set_cons_succ])
          (refine wpAnyH_ready (rs := [4]) (by kernel_rfl) (by simp) ?_; refine AllReadyH.cons rfl (fun K hK => ?_) AllReadyH.nil; go_simp; refine (RMk.out _).mono ?_; rintro e w1 ⟨rfl, hb1⟩; refine hK.out _ _ (keepB (by assumption) hb1) (fun hHeld => ?_); clear hK K); (try simp only [Act.put, List.getElem_toArray, List.getElem_cons_succ, List.getElem_cons_zero, List.setIfInBounds_toArray, List.set_cons_zero, List.set_cons_succ])
          refine wpAnyH_done (by kernel_rfl) ?_ _
          have HB3 := Lib.hid (Bt HB.out hHeld.1)
          have HO3 := Lib.hid (row_below HO.out hHeld.1)
          clear HB HO
          cases hh
          · have e1 := ENk.out rfl
            have E1 := Lib.hid e1
            clear e1 EYk ENk
            go_wp2
            go_roundw
            case measure => simp only [intOf]; omega
            case rel => exact ⟨k + 1, by omega, by go_num, HB3.out, by rw [E1.out]; exact HO3.out⟩
          · have e1 := EYk.out rfl
            have E1 := Lib.hid e1
            have bX := Ba (Below.refl _ w1) (.cells #[.int .i64 (k : Int)] 3)
            have O5 := Lib.hid (row_below HO3.out bX)
            have B5 := Lib.hid (Bt HB3.out bX)
            have L5 := Lib.hid (sl_lit (enc := encI) (w := w1) (cs := #[.int .i64 (k : Int)]) (t := 3) (b := w1.heap.size) [(k : Int)] (by simp) rfl (by unfold maxLen; simp))
            have hlen := ELk.out
            clear e1 EYk ENk bX
            go_wp2_with (at_builtin; refine wpl_app2 apI rfl _ _ rfl ((w.alloc (.cells #[.int .i64 W, .int .i64 H, .int .i64 S, .int .i64 X, .int .i64 Y] 23)).alloc (.cells #[.int .i64 b1, .int .i64 b2, .int .i64 b3, .int .i64 b4] 25)).heap.size (by rfl) (by rfl) O5.out rfl L5.out (by simp; omega) B5.out.size ?_; intro v7 w7 hown7 hgrow7 hat7 hnil7; have O7 := Lib.hid hown7; have B7 := Lib.hid (grownB B5.out O5.out hgrow7); clear hown7 hgrow7 hat7 hnil7)
            go_roundw
            case measure => simp only [intOf]; omega
            case rel => exact ⟨k + 1, by omega, by go_num, B7.out, by rw [E1.out]; exact O7.out⟩
        · obtain rfl : k = n := by omega
          have hkz : ¬ (k : Int) < (k : Int) := by omega
          go_wp2
          go_ret
          exact ⟨_, rfl, row_mono HO.out (by simp; omega), by have := HB.out; exact (by repeat (first | with_reducible exact Below.refl _ _ | with_reducible assumption | with_reducible apply Ba | with_reducible apply Bd | with_reducible apply Bn | with_reducible apply Bg | (with_reducible refine Bs ?_ (by first | (simp; done) | (simp; omega)) _) | (with_reducible refine Bt ?_ (by assumption)) | (with_reducible refine Bt ?_ (Gr.below (by assumption)))))⟩

end Go.Proofs.Ytmeinjkpbijaeaa
