/-
  Maps of tiles: tiles.Blocked, Clone; the reference's Blocked.
-/
import Derived.Test.YtmeinjkpbijaeaaDoorPu14
import Derived.Test.YtmeinjkpbijaeaaDoorNw14
namespace Go.Proofs.YtmeinjkpbijaeaaDoor
set_option linter.unusedSimpArgs false
set_option linter.unusedVariables false
open Go.RowKit Go.Sort Go.Lib Go.Shelf

theorem blk_filter (c : List Int) : (allT c.length).filter (blkT c) = blkL c := by
  rw [blk_all]
  refine List.filter_congr fun t ht => ?_
  unfold blkT cntT
  rw [if_pos (hasT_iff.2 (allT_mem.1 ht))]
section
variable {pa : Nat} {g : Gd} {c : List Int} {M : Nat → Prop} {w : World}
set_option maxHeartbeats 4000000 in
set_option maxRecDepth 100000 in
theorem mblk_call (hp : MpAt 74 w M pa g c) : Calls Tryd.prog 25 #[ptP pa] w fun e w' => ∃ v, e = .returned v ∧ OwnI w' w.heap.size v (blkL c) ∧ RowKit.Below w.heap.size w w' := by
  have HP := Lib.hid hp
  have hl := hp.lt
  obtain ⟨blk, cap, hI, h1, h2, h3, h4, h5, h6⟩ := hp.open
  obtain ⟨-, -, -, -, -, c5⟩ := hI.cells
  have BF := Lib.hid (blk_filter c)
  generalize hbl : blkL c = bl at *
  have HBL := Lib.hid hbl
  clear hI hp hbl
  obtain ⟨n, hn⟩ : ∃ n, n = c.length := ⟨_, rfl⟩
  have HN := Lib.hid hn
  rw [← hn] at c5 BF h1 h5 h6
  clear hn
  unfold ptP
  go_enter Tryd.func25, Tryd.ntmps25
  go_wp2
  go_loopw [3, 10] (fun v i wr => ∃ k : Nat, k ≤ n ∧ i = .int .i64 k ∧ RowKit.Below w.heap.size w wr ∧ OwnI wr w.heap.size v (allT k)) (fun _ i _ => n - (intOf i).toNat)
  case atStart => exact ⟨0, Nat.zero_le _, rfl, Below.refl _ _, own_nil _ _⟩
  case round =>
    obtain ⟨k, hk, rfl, hb, ho⟩ := hrel
    have HB := Lib.hid hb
    have HO := Lib.hid ho
    clear hb ho
    by_cases hkn : k < n
    · have hkz : (k : Int) < (n : Int) := by omega
      have bX := Ba (Below.refl _ wr) (.cells #[.int .i64 (k : Int)] 3)
      have O5 := Lib.hid (row_below HO.out bX)
      have B5 := Lib.hid (Bt HB.out bX)
      have L5 := Lib.hid (sl_lit (enc := encI) (w := wr) (cs := #[.int .i64 (k : Int)]) (t := 3) (b := wr.heap.size) [(k : Int)] (by simp) rfl (by unfold maxLen; simp))
      have hlen : (allT k).length ≤ 1024 := by rw [allT_len]; omega
      have FT := Lib.hid (allT_succ k)
      generalize allT k = L at *
      clear bX
      go_wp2_with (at_builtin; refine wpl_app2 apI rfl _ _ rfl w.heap.size (by rfl) (by rfl) O5.out rfl L5.out (by simp; omega) B5.out.size ?_; intro v7 w7 hown7 hgrow7 hat7 hnil7; have O7 := Lib.hid hown7; have B7 := Lib.hid (grownB B5.out O5.out hgrow7); clear hown7 hgrow7 hat7 hnil7)
      go_roundw
      case measure => simp only [intOf]; omega
      case rel => exact ⟨k + 1, by omega, by go_num, B7.out, by rw [FT.out]; exact O7.out⟩
    · obtain rfl : k = n := by omega
      have hkz : ¬ (k : Int) < (k : Int) := by omega
      have TH := Lib.hid (fun v (hv : OwnI wr w.heap.size v (allT k)) => these_call 39 (ptP pa) enBlocked (blkT c) (allT k) v wr (row_sl lenI hv rfl) (by rw [allT_len]; omega) (tells_blocked (HP.out.below HB.out)))
      rw [BF.out] at TH
      unfold ptP at TH
      go_wp2_with fail
      refine (TH.out _ HO.out).mono ?_
      rintro e w3 ⟨v3, rfl, ho3, hb3⟩
      have O3 := Lib.hid (row_mono ho3 HB.out.size)
      have B3 := Lib.hid (Bt HB.out hb3)
      clear ho3 hb3 TH
      go_wp2
      go_ret
      exact ⟨v3, rfl, O3.out, B3.out⟩
set_option maxHeartbeats 4000000 in
set_option maxRecDepth 100000 in
theorem rblk_call (hp : MpAt 59 w M pa g c) : Calls Tryd.prog 26 #[ptP pa] w fun e w' => ∃ v, e = .returned v ∧ OwnI w' w.heap.size v (blkL c) ∧ RowKit.Below w.heap.size w w' := by
  have HP := Lib.hid hp
  have hl := hp.lt
  obtain ⟨blk, cap, hI, h1, h2, h3, h4, h5, h6⟩ := hp.open
  obtain ⟨-, -, -, -, -, c5⟩ := hI.cells
  have HG := Lib.hid (fun j hj => (hI.get (j := j) hj).1)
  have hbl : blkL c = blkK c c.length := rfl
  rw [hbl]
  have EK := Lib.hid (fun k => blkK_succ c k)
  have EL := Lib.hid (fun k => blkK_len c k)
  have E0 : Hid (blkK c 0 = []) := Lib.hid rfl
  clear hI hp hbl
  generalize c.length = n at *
  generalize hK : blkK c = K at *
  have HK := Lib.hid hK
  clear hK
  have O0 := Lib.hid (World.ownsRow_made (base := w.heap.size) (e := 3) (size := 1) w #[] 0 (Nat.le_refl _) (Nat.zero_le _) (by simp))
  unfold ptP
  go_enter Tryd.func26, Tryd.ntmps26
  go_wp2
  go_loopw [3, 12] (fun v i wr => ∃ k : Nat, k ≤ n ∧ i = .int .i64 k ∧ RowKit.Below w.heap.size w wr ∧ OwnI wr w.heap.size v (K k)) (fun _ i _ => n - (intOf i).toNat)
  case atStart => exact ⟨0, Nat.zero_le _, rfl, (by repeat (first | with_reducible exact Below.refl _ _ | with_reducible assumption | with_reducible apply Ba | with_reducible apply Bd | with_reducible apply Bn | with_reducible apply Bg | (with_reducible refine Bs ?_ (by first | (simp; done) | (simp; omega)) _) | (with_reducible refine Bt ?_ (by assumption)) | (with_reducible refine Bt ?_ (Gr.below (by assumption))))), by rw [E0.out]; exact O0.out⟩
  case round =>
    obtain ⟨k, hk, rfl, hb, ho⟩ := hrel
    have HB := Lib.hid hb
    have HO := Lib.hid ho
    by_cases hkn : k < n
    · have hkz : (k : Int) < (n : Int) := by omega
      have d1 := Bc hb h3 (HG.out k hkn)
      have hbl := Bl hb h3
      have et := EK.out k
      have hlen := EL.out k
      generalize c[k]! = x at *
      clear hb ho
      by_cases hx : (0 : Int) < x
      · rw [if_pos hx] at et
        have ET := Lib.hid et
        have bX := Ba (Below.refl _ wr) (.cells #[.int .i64 (k : Int)] 3)
        have O5 := Lib.hid (row_below HO.out bX)
        have B5 := Lib.hid (Bt HB.out bX)
        have L5 := Lib.hid (sl_lit (enc := encI) (w := wr) (cs := #[.int .i64 (k : Int)]) (t := 3) (b := wr.heap.size) [(k : Int)] (by simp) rfl (by unfold maxLen; simp))
        clear bX et
        go_wp2_with (at_builtin; refine wpl_app2 apI rfl _ _ rfl w.heap.size (by rfl) (by rfl) O5.out rfl L5.out (by simp; omega) B5.out.size ?_; intro v7 w7 hown7 hgrow7 hat7 hnil7; have O7 := Lib.hid hown7; have B7 := Lib.hid (grownB B5.out O5.out hgrow7); clear hown7 hgrow7 hat7 hnil7)
        go_roundw
        case measure => simp only [intOf]; omega
        case rel => exact ⟨k + 1, by omega, by go_num, B7.out, by rw [ET.out]; exact O7.out⟩
      · rw [if_neg hx, List.append_nil] at et
        have ET := Lib.hid et
        clear et
        go_wp2
        go_roundw
        case measure => simp only [intOf]; omega
        case rel => exact ⟨k + 1, by omega, by go_num, HB.out, by rw [ET.out]; exact HO.out⟩
    · obtain rfl : k = n := by omega
      have hkz : ¬ (k : Int) < (k : Int) := by omega
      clear hb ho
      go_wp2
      go_ret
      exact ⟨_, rfl, HO.out, HB.out⟩
set_option maxHeartbeats 4000000 in
set_option maxRecDepth 100000 in
theorem mclone_call (hp : MpAt 74 w M pa g c) : Calls Tryd.prog 24 #[ptP pa] w fun e w' => ∃ pb, e = .returned (ptP pb) ∧ MpAt 74 w' (Fresh w w') pb g c ∧ RowKit.Below w.heap.size w w' := by
  have HOk := Lib.hid hp.ok
  have HLn := Lib.hid hp.len
  have hl := hp.lt
  obtain ⟨blk, cap, hI, h1, h2, h3, h4, h5, h6⟩ := hp.open
  obtain ⟨c0, c1, c2, c3, c4, c5⟩ := hI.cells
  have CC := Lib.hid (fun W (hb : RowKit.Below w.heap.size w W) => cloneI_call c _ W ((row_sl lenI hI.2.2.1 rfl).below hb) h5 h6)
  clear hI hp
  obtain ⟨W, H, S, X, Y⟩ := g
  dsimp only at c0 c1 c2 c3 c4
  unfold ptP
  go_enter Tryd.func24, Tryd.ntmps24
  go_wp2_with fail
  refine wp_region_held_drew (S := (fun w' => Below (w).heap.size (w) w' ∧ ∀ b_1 o, b_1 < (w).heap.size → w'.cell? ⟨b_1, o, none⟩ = (w).cell? ⟨b_1, o, none⟩)) (by kernel_rfl) (keep0 _) (fun hHeld => ?_)
  (refine wpAnyH_take (i := 0) (v := ?_) rfl (by kernel_rfl) (by kernel_rfl) (by kernel_rfl) (fun _ _ _ h => h) (Or.inl ⟨by rfl, ?rt⟩) (by assumption) ?_; case rt => (intro w hSw; (try dsimp only at hSw); go_simp; (try with_reducible rfl))); (try simp only [Act.put, List.getElem_toArray, List.getElem_cons_succ, List.getElem_cons_zero, List.setIfInBounds_toArray, List.set_cons_zero, List.set_cons_succ])
  (refine wpAnyH_take (i := 1) (v := ?_) rfl (by kernel_rfl) (by kernel_rfl) (by kernel_rfl) (fun _ _ _ h => h) (Or.inl ⟨by rfl, ?rt⟩) (by assumption) ?_; case rt => (intro w hSw; (try dsimp only at hSw); go_simp; (try with_reducible rfl))); (try simp only [Act.put, List.getElem_toArray, List.getElem_cons_succ, List.getElem_cons_zero, List.setIfInBounds_toArray, List.set_cons_zero, List.set_cons_succ])
  (refine wpAnyH_take (i := 2) (v := ?_) rfl (by kernel_rfl) (by kernel_rfl) (by kernel_rfl) (fun _ _ _ h => h) (Or.inl ⟨by rfl, ?rt⟩) (by assumption) ?_; case rt => (intro w hSw; (try dsimp only at hSw); go_simp; (try with_reducible rfl))); (try simp only [Act.put, List.getElem_toArray, List.getElem_cons_succ, List.getElem_cons_zero, List.setIfInBounds_toArray, List.set_cons_zero, List.set_cons_succ])
  (refine wpAnyH_take (i := 3) (v := ?_) rfl (by kernel_rfl) (by kernel_rfl) (by kernel_rfl) (fun _ _ _ h => h) (Or.inl ⟨by rfl, ?rt⟩) (by assumption) ?_; case rt => (intro w hSw; (try dsimp only at hSw); go_simp; (try with_reducible rfl))); (try simp only [Act.put, List.getElem_toArray, List.getElem_cons_succ, List.getElem_cons_zero, List.setIfInBounds_toArray, List.set_cons_zero, List.set_cons_succ])
  (refine wpAnyH_take (i := 4) (v := ?_) rfl (by kernel_rfl) (by kernel_rfl) (by kernel_rfl) (fun _ _ _ h => h) (Or.inl ⟨by rfl, ?rt⟩) (by assumption) ?_; case rt => (intro w hSw; (try dsimp only at hSw); go_simp; (try with_reducible rfl))); (try simp only [Act.put, List.getElem_toArray, List.getElem_cons_succ, List.getElem_cons_zero, List.setIfInBounds_toArray, List.set_cons_zero, List.set_cons_succ])
  (refine wpAnyH_take (i := 5) (v := ?_) rfl (by kernel_rfl) (by kernel_rfl) (by kernel_rfl) (fun _ _ _ h => h) (Or.inl ⟨by rfl, ?rt⟩) (by assumption) ?_; case rt => (intro w hSw; (try dsimp only at hSw); go_simp; (try with_reducible rfl))); (try simp only [Act.put, List.getElem_toArray, List.getElem_cons_succ, List.getElem_cons_zero, List.setIfInBounds_toArray, List.set_cons_zero, List.set_cons_succ])
  (refine wpAnyH_take (i := 6) (v := ?_) rfl (by kernel_rfl) (by kernel_rfl) (by kernel_rfl) (fun _ _ _ h => h) (Or.inl ⟨by rfl, ?rt⟩) (by assumption) ?_; case rt => (intro w hSw; (try dsimp only at hSw); go_simp; (try with_reducible rfl))); (try simp only [Act.put, List.getElem_toArray, List.getElem_cons_succ, List.getElem_cons_zero, List.setIfInBounds_toArray, List.set_cons_zero, List.set_cons_succ])
  (refine wpAnyH_take (i := 7) (v := ?_) rfl (by kernel_rfl) (by kernel_rfl) (by kernel_rfl) (fun _ _ _ h => h) (Or.inl ⟨by rfl, ?rt⟩) (by assumption) ?_; case rt => (intro w hSw; (try dsimp only at hSw); go_simp; (try with_reducible rfl))); (try simp only [Act.put, List.getElem_toArray, List.getElem_cons_succ, List.getElem_cons_zero, List.setIfInBounds_toArray, List.set_cons_zero, List.set_cons_succ])
  (refine wpAnyH_ready (rs := [8]) (by kernel_rfl) (by simp) ?_; refine AllReadyH.cons rfl (fun K hK => ?_) AllReadyH.nil; go_simp; refine (CC.out _ hHeld.1).mono ?_; rintro e w2 ⟨v, rfl, ho, hb2⟩; obtain ⟨p9, cap9, rfl, -, -, -⟩ := row_val ho; have OU := Lib.hid (And.intro ho hHeld.1.size); refine hK.out _ _ (keepB (by assumption) hb2) (fun hHeld => ?_); clear hK K ho hb2); (try simp only [Act.put, List.getElem_toArray, List.getElem_cons_succ, List.getElem_cons_zero, List.setIfInBounds_toArray, List.set_cons_zero, List.set_cons_succ])
  (refine wpAnyH_take (i := 9) (v := ?_) rfl (by kernel_rfl) (by kernel_rfl) (by kernel_rfl) (fun _ _ _ h => h) (Or.inl ⟨by rfl, ?rt⟩) (by assumption) ?_; case rt => (intro w hSw; (try dsimp only at hSw); go_simp; (try with_reducible rfl))); (try simp only [Act.put, List.getElem_toArray, List.getElem_cons_succ, List.getElem_cons_zero, List.setIfInBounds_toArray, List.set_cons_zero, List.set_cons_succ])
  (refine wpAnyH_ready (rs := [10]) (by kernel_rfl) (by simp) ?_; refine AllReadyH.cons rfl (fun K hK => ?_) AllReadyH.nil; go_simp; refine hK.out _ _ (keepA (by assumption) _) (fun hHeld2 => ?_); clear hK K); (try simp only [Act.put, List.getElem_toArray, List.getElem_cons_succ, List.getElem_cons_zero, List.setIfInBounds_toArray, List.set_cons_zero, List.set_cons_succ])
  (refine wpAnyH_take (i := 11) (v := ?_) rfl (by kernel_rfl) (by kernel_rfl) (by kernel_rfl) (fun _ _ _ h => h) (Or.inl ⟨by rfl, ?rt⟩) (by assumption) ?_; case rt => (intro w hSw; (try dsimp only at hSw); go_simp; (try with_reducible rfl))); (try simp only [Act.put, List.getElem_toArray, List.getElem_cons_succ, List.getElem_cons_zero, List.setIfInBounds_toArray, List.set_cons_zero, List.set_cons_succ])
  refine wpAnyH_done (by kernel_rfl) ?_ _
  have O2 := Lib.hid (row_mono OU.out.1 OU.out.2)
  have B2 := Lib.hid hHeld.1
  have hsw := B2.out.size
  have O3 := Lib.hid (row_below O2.out (Ba (Below.refl _ w2) (.cells #[.int .i64 W, .int .i64 H, .int .i64 S, .int .i64 X, .int .i64 Y, .slice p9 c.length cap9] 74)))
  clear OU hHeld hHeld2 CC
  go_wp2
  go_ret
  refine ⟨w2.heap.size, rfl, ⟨⟨.slice p9 c.length cap9, heap_alloc_new w2 _, .inr ⟨hsw, by simp⟩, row_fresh (w := w) O3.out⟩, HOk.out, HLn.out, tMap⟩, by have := B2.out; exact (by repeat (first | with_reducible exact Below.refl _ _ | with_reducible assumption | with_reducible apply Ba | with_reducible apply Bd | with_reducible apply Bn | with_reducible apply Bg | (with_reducible refine Bs ?_ (by first | (simp; done) | (simp; omega)) _) | (with_reducible refine Bt ?_ (by assumption)) | (with_reducible refine Bt ?_ (Gr.below (by assumption)))))⟩
end
end Go.Proofs.YtmeinjkpbijaeaaDoor
