import Derived.Test.YtaehendpdfpibaaGreatDoorZ27
import Derived.Test.YtaehendpdfpibaaGreatDoorZ24
import Derived.Deep.RegionHeld3
import Derived.Test.YtaehendpdfpibaaGreatDoorZ13

/-
  The walk of QueryAnswers (written by mkq9.py).
-/
namespace Go.Proofs.YtaehendpdfpibaaGreatDoor
set_option linter.unusedSimpArgs false
set_option linter.unusedVariables false
open Go.RowKit Go.Sort Go.Lib Go.Shelf

section
variable {A : Nat → Addr}
set_option maxHeartbeats 8000000 in
set_option maxRecDepth 100000 in
theorem queryAnswers_walk (a b : Nat) (ha : a < 18446744073709551616) (hb : b < 18446744073709551616) (l : List Rr) (v : Value) (w : World) (hl : Sl encRr w v l) (hr : ∀ r ∈ l, Sl encV w r.1 r.2) (hE : Er8 w A) (hT : TabW w) :
    Calls Tryz.prog 4 #[.agg #[v, .int .u64 (a : Int), .int .u64 (b : Int)]] w fun e w' => e = .returned (.bool true) ∧ RowKit.Below w.heap.size w w' := by
  have bl : RowKit.Below w.heap.size w (w.alloc (.cells #[v, .int .u64 (a : Int), .int .u64 (b : Int)] 56)) := (by repeat (first | with_reducible exact Below.refl _ _ | with_reducible assumption | with_reducible apply Ba | with_reducible apply Bd | with_reducible apply Bn | with_reducible apply Bg | (with_reducible refine Bs ?_ (by first | (simp; done) | (simp; omega)) _) | (with_reducible refine Bt ?_ (by assumption)) | (with_reducible refine Bt ?_ (Gr.below (by assumption)))))
  have BL := Lib.hid bl
  have X0 := Lib.hid (show (w.alloc (.cells #[v, .int .u64 (a : Int), .int .u64 (b : Int)] 56)).heap[w.heap.size]? = some (.cells #[v, .int .u64 (a : Int), .int .u64 (b : Int)] 56 (0, 0)) from heap_alloc_new w _)
  have C0 := Lib.hid (alive9_any (w.alloc (.cells #[v, .int .u64 (a : Int), .int .u64 (b : Int)] 56)) (A 4) (hE.below bl).e7.er.kind)
  have HRw := Lib.hid (show ∀ W, RowKit.Below w.heap.size w W → ∀ r ∈ l, Sl encV W r.1 r.2 from fun W hb r h => (hr r h).below hb)
  have HV := Lib.hid (show ∀ W, RowKit.Below w.heap.size w W → Sl encRr W v l from fun W hb => hl.below hb)
  have CF : Hid (∀ W, RowKit.Below w.heap.size w W → Calls Tryz.prog 21 #[v] W fun e w' => RowKit.Below W.heap.size W w' ∧
        ((e = .returned (.tuple #[.pointer none, .pointer none, .bool false]) ∧ (40 < l.length ∨ bigR l = true)) ∨
         ∃ ps pr L, e = .returned (.tuple #[psP ps, rsP pr, .bool true]) ∧ l.length ≤ 40 ∧ bigR l = false ∧ TwoS W.heap.size w' ps pr L)) := fun W hb => filled_call l v W (HV.out W hb) (HRw.out W hb) (hE.below hb) (hT.below hb)
  have CL : Hid (∀ W, RowKit.Below w.heap.size w W → Calls Tryz.prog 22 #[v] W fun e w' => e = .returned (.bool (bigR l)) ∧ RowKit.Below W.heap.size W w') := fun W hb => long_call l v W (HV.out W hb) (HRw.out W hb)
  have HA := Lib.hid (show ∀ W, RowKit.Below w.heap.size w W → Era W.heap.size W A from fun W hb => Era.of (hE.below hb) (hT.below hb) (Nat.le_refl _))
  have HE := Lib.hid hE
  obtain ⟨pv, cv, rfl, hcv, hcm, _⟩ := hl
  have hcv2 : l.length ≤ 9223372036854775807 := by unfold maxLen at hcm; omega
  clear hE hT hr bl HRw HV hcm
  go_enter Tryz.func4, Tryz.ntmps4
  go_wp2_with fail
  generalize hW : w.alloc (.cells #[.slice pv l.length cv, .int .u64 (a : Int), .int .u64 (b : Int)] 56) = W0 at *
  clear hW
  refine C0.out.mono ?_
  rintro e w1 ⟨rfl, hb1⟩
  have B1 := Lib.hid (Bt BL.out hb1)
  have Y0 := Lib.hid (blk_below X0.out hb1)
  obtain ⟨⟨q0, q1, q2⟩, _, _, _⟩ := three_cells (Y0.out)
  have hq0 := cell_lt q0
  clear hb1 C0
  go_wp2_with fail
  refine (CF.out w1 B1.out).mono ?_
  rintro e w2 ⟨hb2, hc⟩
  have B2 := Lib.hid (Bt B1.out hb2)
  clear q0 q1 q2 hq0
  have Z0 := Lib.hid (blk_below Y0.out hb2)
  obtain ⟨⟨q0, q1, q2⟩, _, _, _⟩ := three_cells (Z0.out)
  have hq0 := cell_lt q0
  clear CF
  rcases hc with ⟨rfl, hbig⟩ | ⟨ps, pr, L, rfl, hl40, hnb, hTW⟩
  · by_cases h40 : 40 < l.length
    · have h40' : (l.length : Int) > 40 := by omega
      clear hbig hb2
      go_wp2
      go_ret
      exact ⟨rfl, B2.out⟩
    · have h40' : ¬ (l.length : Int) > 40 := by omega
      have CL2 := Lib.hid (CL.out w2 B2.out)
      rw [hbig.resolve_left h40] at CL2
      clear hbig hb2
      go_wp2_with fail
      refine CL2.out.mono ?_
      rintro e w3 ⟨rfl, hb3⟩
      have B3 := Lib.hid (Bt B2.out hb3)
      clear hb3 CL2
      go_wp2
      go_ret
      exact ⟨rfl, B3.out⟩
  · obtain ⟨N, M, hS, hRS, hMN⟩ := hTW
    have S2 := Lib.hid hS
    have R2 := Lib.hid hRS
    have HG := Lib.hid hS.good
    have A2 := Lib.hid ((HA.out w1 B1.out).below hb2)
    clear hS hRS hMN hb2 hnb CL
    have hX128 := Nat.le_trans (len_ans L a b) HG.out.len
    have HRT := Lib.hid (show ∀ k, k < (ansE L a b).length → RightV (ansE L a b)[k]!.2 from fun k hk => HG.out.right _ (ans_mem hk).1)
    have HHX := Lib.hid (show ∀ k, k < (ansE L a b).length → (hds (ansE L a b))[k]! = (ansE L a b)[k]!.1 from fun k hk => hds_at9 hk)
    have hHL := hds_len9 (ansE L a b)
    have HBA := Lib.hid (show ∀ k, k < (ansE L a b).length → boxB (ansE L a b)[k]!.2 = true → _ from fun k hk hb => bxE_at hk hb)
    have HBS := Lib.hid (show ∀ k, k < (ansE L a b).length → _ from fun k hk => bxE_step (X := ansE L a b) hk)
    have hBl := bxE_len (ansE L a b)
    have CH : Hid (∀ W, RowKit.Below w2.heap.size w2 W → Calls Tryz.prog 24 #[qV a b, psP ps] W fun e w' => ∃ v, e = .returned v ∧ Sl encH w' v (hds (ansE L a b)) ∧ RowKit.Below W.heap.size W w') := fun W h => qhandles (S2.out.below h) _ _ ha hb
    have CEn : Hid (∀ W, RowKit.Below w2.heap.size w2 W → Calls Tryz.prog 26 #[qV a b, psP ps] W fun e w' => ∃ v, e = .returned v ∧ LsE w' TrueN v (ansE L a b) ∧ RowKit.Below W.heap.size W w') := fun W h => qentities (S2.out.below h) (A2.out.below h) _ _ ha hb
    have CC : Hid (∀ W, RowKit.Below w2.heap.size w2 W → Calls Tryz.prog 27 #[qV a b, psP ps] W fun e w' => e = .returned (.int .i64 (ansE L a b).length) ∧ RowKit.Below W.heap.size W w') := fun W h => qcount (S2.out.below h) a b ha hb
    have CBx : Hid (∀ W, RowKit.Below w2.heap.size w2 W → Calls Tryz.prog 28 #[qV a b, psP ps] W fun e w' => ∃ v, e = .returned v ∧ Sl encH w' v (bxE (ansE L a b)) ∧ RowKit.Below W.heap.size W w') := fun W h => qboxes (S2.out.below h) (A2.out.below h) _ _ ha hb
    obtain ⟨p, cap, N1, hbk, hls, hc1, hc2, _, _⟩ := R2.out.open
    have CE : Hid (∀ W, RowKit.Below w2.heap.size w2 W → Calls Tryz.prog 23 #[.slice p L.length cap, .int .u64 a, .int .u64 b] W fun e w' => ∃ v, e = .returned v ∧ LsE w' TrueN v (ansE L a b) ∧ RowKit.Below W.heap.size W w') := fun W h => rqents L _ a b ha hb W (hls.below h) HG.out.right (by have := HG.out.len; omega)
    have HB0 := Lib.hid hbk
    generalize ansE L a b = X at *
    generalize hds X = H at *
    have CS : Hid (∀ va vb W, LsE W TrueN va X → LsE W TrueN vb X → Calls Tryz.prog 25 #[va, vb] W fun e w' => e = .returned (.bool true) ∧ RowKit.Below W.heap.size W w') := fun va vb W h1 h2 => rsameAll X va vb W h1 h2 (by omega)
    clear hls hbk S2 A2 R2 HG
    have bQ := Ba (Below.refl _ w2) (qB a b)
    have B3 := Lib.hid bQ
    have Q3 := Lib.hid (heap_alloc_new w2 (qB a b))
    have V3 := Lib.hid (blk_below Z0.out bQ)
    have P3 := Lib.hid (blk_below HB0.out bQ)
    obtain ⟨W3, hW3⟩ : ∃ W3, W3 = w2.alloc (qB a b) := ⟨_, rfl⟩
    obtain ⟨qq, hqq⟩ : ∃ qq, qq = w2.heap.size := ⟨_, rfl⟩
    rw [← hW3] at B3 V3 P3
    rw [← hW3, ← hqq] at Q3
    clear bQ
    go_wp2_with fail
    rw [← hW3, ← hqq]
    clear hW3 hqq HB0 Z0 q0 q1 q2 hq0
    obtain ⟨⟨q0, q1, q2⟩, _, _, _⟩ := three_cells V3.out
    have hq0 := cell_lt q0
    obtain ⟨c0, _⟩ := one_cell P3.out
    have hl0 := cell_lt c0
    refine wp_region_held_drew (S := (fun w' => Below (W3).heap.size (W3) w' ∧ ∀ b_1 o, b_1 < (W3).heap.size → w'.cell? ⟨b_1, o, none⟩ = (W3).cell? ⟨b_1, o, none⟩)) (by kernel_rfl) (keep0 _) (fun hHeld => ?_)
    (refine wpAnyH_take (i := 0) (v := ?_) rfl (by kernel_rfl) (by kernel_rfl) (by kernel_rfl) (fun _ _ _ h => h) (Or.inl ⟨by rfl, ?rt⟩) (by assumption) ?_; case rt => (intro w hSw; (try dsimp only at hSw); go_simp; (try with_reducible rfl))); (try simp only [Act.put, List.getElem_toArray, List.getElem_cons_succ, List.getElem_cons_zero, List.setIfInBounds_toArray, List.set_cons_zero, List.set_cons_succ])
    (refine wpAnyH_take (i := 1) (v := ?_) rfl (by kernel_rfl) (by kernel_rfl) (by kernel_rfl) (fun _ _ _ h => h) (Or.inl ⟨by rfl, ?rt⟩) (by assumption) ?_; case rt => (intro w hSw; (try dsimp only at hSw); go_simp; (try with_reducible rfl))); (try simp only [Act.put, List.getElem_toArray, List.getElem_cons_succ, List.getElem_cons_zero, List.setIfInBounds_toArray, List.set_cons_zero, List.set_cons_succ])
    (refine wpAnyH_take (i := 2) (v := ?_) rfl (by kernel_rfl) (by kernel_rfl) (by kernel_rfl) (fun _ _ _ h => h) (Or.inl ⟨by rfl, ?rt⟩) (by assumption) ?_; case rt => (intro w hSw; (try dsimp only at hSw); go_simp; (try with_reducible rfl))); (try simp only [Act.put, List.getElem_toArray, List.getElem_cons_succ, List.getElem_cons_zero, List.setIfInBounds_toArray, List.set_cons_zero, List.set_cons_succ])
    (refine wpAnyH_take (i := 3) (v := ?_) rfl (by kernel_rfl) (by kernel_rfl) (by kernel_rfl) (fun _ _ _ h => h) (Or.inl ⟨by rfl, ?rt⟩) (by assumption) ?_; case rt => (intro w hSw; (try dsimp only at hSw); go_simp; (try with_reducible rfl))); (try simp only [Act.put, List.getElem_toArray, List.getElem_cons_succ, List.getElem_cons_zero, List.setIfInBounds_toArray, List.set_cons_zero, List.set_cons_succ])
    (refine wpAnyH_take (i := 4) (v := ?_) rfl (by kernel_rfl) (by kernel_rfl) (by kernel_rfl) (fun _ _ _ h => h) (Or.inl ⟨by rfl, ?rt⟩) (by assumption) ?_; case rt => (intro w hSw; (try dsimp only at hSw); go_simp; (try with_reducible rfl))); (try simp only [Act.put, List.getElem_toArray, List.getElem_cons_succ, List.getElem_cons_zero, List.setIfInBounds_toArray, List.set_cons_zero, List.set_cons_succ])
    (refine wpAnyH_take (i := 5) (v := ?_) rfl (by kernel_rfl) (by kernel_rfl) (by kernel_rfl) (fun _ _ _ h => h) (Or.inl ⟨by rfl, ?rt⟩) (by assumption) ?_; case rt => (intro w hSw; (try dsimp only at hSw); go_simp; (try with_reducible rfl))); (try simp only [Act.put, List.getElem_toArray, List.getElem_cons_succ, List.getElem_cons_zero, List.setIfInBounds_toArray, List.set_cons_zero, List.set_cons_succ])
    (refine wpAnyH_take (i := 6) (v := ?_) rfl (by kernel_rfl) (by kernel_rfl) (by kernel_rfl) (fun _ _ _ h => h) (Or.inl ⟨by rfl, ?rt⟩) (by assumption) ?_; case rt => (intro w hSw; (try dsimp only at hSw); go_simp; (try with_reducible rfl))); (try simp only [Act.put, List.getElem_toArray, List.getElem_cons_succ, List.getElem_cons_zero, List.setIfInBounds_toArray, List.set_cons_zero, List.set_cons_succ])
    (refine wpAnyH_take (i := 7) (v := ?_) rfl (by kernel_rfl) (by kernel_rfl) (by kernel_rfl) (fun _ _ _ h => h) (Or.inl ⟨by rfl, ?rt⟩) (by assumption) ?_; case rt => (intro w hSw; (try dsimp only at hSw); go_simp; (try with_reducible rfl))); (try simp only [Act.put, List.getElem_toArray, List.getElem_cons_succ, List.getElem_cons_zero, List.setIfInBounds_toArray, List.set_cons_zero, List.set_cons_succ])
    refine wpAnyH_ready (rs := [8]) (by kernel_rfl) (by simp) ?_
    refine AllReadyH.cons rfl (fun K hK => ?_) AllReadyH.nil
    go_simp
    refine (CE.out _ (Bt B3.out hHeld.1)).mono ?_
    rintro e w4 ⟨v4, rfl, hs4, hb4⟩
    refine hK.out _ _ (keepB (by assumption) hb4) (fun hHeld => ?_)
    clear hK K
    (try simp only [Act.put, List.getElem_toArray, List.getElem_cons_succ, List.getElem_cons_zero, List.setIfInBounds_toArray, List.set_cons_zero, List.set_cons_succ])
    (refine wpAnyH_take (i := 9) (v := ?_) rfl (by kernel_rfl) (by kernel_rfl) (by kernel_rfl) (fun _ _ _ h => h) (Or.inl ⟨by rfl, ?rt⟩) (by assumption) ?_; case rt => (intro w hSw; (try dsimp only at hSw); go_simp; (try with_reducible rfl))); (try simp only [Act.put, List.getElem_toArray, List.getElem_cons_succ, List.getElem_cons_zero, List.setIfInBounds_toArray, List.set_cons_zero, List.set_cons_succ])
    refine wpAnyH_done (by kernel_rfl) ?_ _
    have B4 := Lib.hid (Bt B3.out hHeld.1)
    have L4 := Lib.hid hs4
    have Q4 := Lib.hid (blk_below Q3.out hHeld.1)
    obtain ⟨p4, c4, rfl, hc3, hc4⟩ := hs4.form
    have C5 := Lib.hid (CH.out w4 B4.out)
    obtain ⟨u0, u1, _, _⟩ := two_cells Q4.out
    have hu0 := cell_lt u0
    have hn2 : X.length ≤ 9223372036854775807 := by omega
    clear hHeld hs4 hb4 CE c0 hl0 q0 q1 q2 hq0 hc1 hc2 hc4 V3 P3 Q3 CH
    go_wp2_with fail
    refine C5.out.mono ?_
    rintro e w5 ⟨v5, rfl, hs5, hb5⟩
    have B5 := Lib.hid (Bt B4.out hb5)
    have L5 := Lib.hid (L4.out.below hb5)
    have H5 := Lib.hid hs5
    have Q5 := Lib.hid (blk_below Q4.out hb5)
    obtain ⟨p5, c5, rfl, hc5, hc6, _⟩ := hs5
    rw [hHL] at hc5
    rw [hHL]
    have C6 := Lib.hid (CEn.out w5 B5.out)
    clear u0 u1 hu0
    obtain ⟨u0, u1, _, _⟩ := two_cells Q5.out
    have hu0 := cell_lt u0
    clear hb5 C5 hc6 L4 Q4 CEn
    go_wp2_with fail
    refine C6.out.mono ?_
    rintro e w6 ⟨v6, rfl, hs6, hb6⟩
    have B6 := Lib.hid (Bt B5.out hb6)
    have L6 := Lib.hid (L5.out.below hb6)
    have H6 := Lib.hid (H5.out.below hb6)
    have Q6 := Lib.hid (blk_below Q5.out hb6)
    have C7 := Lib.hid (CS.out _ _ w6 hs6 L6.out)
    obtain ⟨p6, c6, rfl, _, _⟩ := hs6.form
    clear hs6 hb6 C6 L5 H5 Q5 u0 u1 hu0 CS
    go_wp2_with fail
    refine C7.out.mono ?_
    rintro e w7 ⟨rfl, hb7⟩
    have B7 := Lib.hid (Bt B6.out hb7)
    have L7 := Lib.hid (L6.out.below hb7)
    have H7 := Lib.hid (H6.out.below hb7)
    have Q7 := Lib.hid (blk_below Q6.out hb7)
    have C8 := Lib.hid (CC.out w7 B7.out)
    obtain ⟨u0, u1, _, _⟩ := two_cells Q7.out
    have hu0 := cell_lt u0
    clear hb7 C7 L6 H6 Q6 CC
    go_wp2_with fail
    refine C8.out.mono ?_
    rintro e w8 ⟨rfl, hb8⟩
    have B8 := Lib.hid (Bt B7.out hb8)
    have L8 := Lib.hid (L7.out.below hb8)
    have H8 := Lib.hid (H7.out.below hb8)
    have Q8 := Lib.hid (blk_below Q7.out hb8)
    have C9 := Lib.hid (CBx.out w8 B8.out)
    clear u0 u1 hu0
    obtain ⟨u0, u1, _, _⟩ := two_cells Q8.out
    have hu0 := cell_lt u0
    clear hb8 C8 L7 H7 Q7 CBx
    go_wp2_with fail
    refine C9.out.mono ?_
    rintro e w9 ⟨v9, rfl, hs9, hb9⟩
    have B9 := Lib.hid (Bt B8.out hb9)
    have L9 := Lib.hid (L8.out.below hb9)
    have H9 := Lib.hid (H8.out.below hb9)
    have X9 := Lib.hid hs9
    obtain ⟨p9, c9, rfl, hc9, _, _⟩ := hs9
    have hbz : (bxE X).length ≤ 9223372036854775807 := by omega
    generalize hBX : bxE X = BX at *
    have HBX := Lib.hid hBX
    clear hBX hb9 C9 L8 H8 u0 u1 hu0 Q8
    go_wp2
    go_loopw [10, 78] (fun s10 s78 wr => ∃ (i n : Nat), s78 = .int .i64 i ∧ s10 = .int .i64 n ∧ i ≤ X.length ∧ n ≤ i ∧ Hid (n = (bxE (X.take i)).length) ∧ Hid (RowKit.Below w9.heap.size w9 wr)) (fun _ i _ => X.length - (intOf i).toNat)
    case atStart => exact ⟨0, 0, rfl, rfl, Nat.zero_le _, Nat.le_refl _, Lib.hid rfl, Lib.hid (Below.refl _ _)⟩
    case round =>
      obtain ⟨i, n, rfl, rfl, hi, hni, HN, HB⟩ := hrel
      by_cases hin : i < X.length
      · have hiz : (i : Int) < (X.length : Int) := by omega
        have hrt := HRT.out i hin
        have HB1 := Lib.hid (HBA.out i hin)
        have HS1 := Lib.hid (HBS.out i hin)
        obtain ⟨g, o, sp, cc, rfl, hg, _, d1, d2, d3, hsl, hq1, hq2⟩ := L9.out.at hin
        replace d1 := Bc HB.out hg d1
        replace d2 := Bc HB.out hg d2
        replace d3 := Bc HB.out hg d3
        have hgr : g < wr.heap.size := Nat.lt_of_lt_of_le hg HB.out.size
        obtain ⟨p', c', e', _, _, hcl⟩ := H9.out
        simp only [Value.slice.injEq] at e'
        obtain ⟨rfl, _, rfl⟩ := e'
        obtain ⟨g5, o5, rfl, hg5, hcells⟩ := hcl (by omega)
        have f1 : w9.cell? ⟨g5, o5 + i * 2, none⟩ = some (.int .i64 H[i]!.1) := sl_at lenH hcells (show i < H.length by omega) 0 _ rfl
        have f2 : w9.cell? ⟨g5, o5 + i * 2 + 1, none⟩ = some (.int .i64 H[i]!.2) := sl_at lenH hcells (show i < H.length by omega) 1 _ rfl
        rw [HHX.out i hin] at f1 f2
        replace f1 := Bc HB.out hg5 f1
        replace f2 := Bc HB.out hg5 f2
        have hgr5 : g5 < wr.heap.size := Nat.lt_of_lt_of_le hg5 HB.out.size
        rw [← HN.out] at HB1
        generalize X[i]! = yy at *
        obtain ⟨⟨y1, y2⟩, yl⟩ := yy
        dsimp only at d1 d2 d3 hsl hrt HB1 HS1 f1 f2
        have bE := Ba (Below.refl _ wr) (eB y1 y2 sp yl.length cc)
        have E1 := Lib.hid (heap_alloc_new wr (eB y1 y2 sp yl.length cc))
        have BE := Lib.hid (Bt HB.out bE)
        have CX : Hid (∀ W, RowKit.Below w9.heap.size w9 W → Calls Tryz.prog 29 #[.slice sp yl.length cc] W fun e w' => e = .returned (.tuple #[boxA yl, .bool (boxB yl)]) ∧ RowKit.Below W.heap.size W w') := fun W h => rbox_call yl _ W (hsl.sl.below h) hrt.2
        obtain ⟨x1, x2, x3, x4, hx4⟩ := boxA_form yl
        rw [hx4] at CX
        obtain ⟨q, hq⟩ : ∃ q, q = boxB yl := ⟨_, rfl⟩
        rw [← hq] at CX HB1 HS1
        clear hx4 hq hsl hrt hcells hcl
        generalize yl.length = n9 at *
        have f3 := Bc bE hgr5 f1
        have f4 := Bc bE hgr5 f2
        have hgr6 := Bl bE hgr5
        obtain ⟨⟨e0, e1, e2⟩, _, _, _⟩ := three_cells E1.out
        have hel := cell_lt e0
        obtain ⟨W6, hW6⟩ : ∃ W6, W6 = wr.alloc (eB y1 y2 sp n9 cc) := ⟨_, rfl⟩
        obtain ⟨eb, heb⟩ : ∃ eb, eb = wr.heap.size := ⟨_, rfl⟩
        rw [← hW6, ← heb] at e0 e1 e2 E1
        rw [← hW6] at f3 f4 BE hgr6 hel
        rw [← heb] at hel
        clear bE f1 f2 hgr5
        go_wp2_with fail
        rw [← hW6, ← heb]
        clear hW6 heb d1 d2 d3 hgr
        have ne1 : ∀ W, Sem.run Tryz.prog (binOp .neq 31 (.agg #[.int .i64 y1, .int .i64 y2]) (.agg #[.int .i64 y1, .int .i64 y2])) W = .ok (.bool false) W := fun W => by rw [neH_run]; simp
        have gd1 := gdH_run
        refine wp_region_held_drew (S := (fun w' => Below (W6).heap.size (W6) w' ∧ ∀ b_1 o, b_1 < (W6).heap.size → w'.cell? ⟨b_1, o, none⟩ = (W6).cell? ⟨b_1, o, none⟩)) (by kernel_rfl) (keep0 _) (fun hHeld => ?_)
        (refine wpAnyH_take (i := 0) (v := ?_) rfl (by kernel_rfl) (by kernel_rfl) (by kernel_rfl) (fun _ _ _ h => h) (Or.inl ⟨by rfl, ?rt⟩) (by assumption) ?_; case rt => (intro w hSw; (try dsimp only at hSw); go_simp; (try with_reducible rfl))); (try simp only [Act.put, List.getElem_toArray, List.getElem_cons_succ, List.getElem_cons_zero, List.setIfInBounds_toArray, List.set_cons_zero, List.set_cons_succ])
        (refine wpAnyH_take (i := 1) (v := ?_) rfl (by kernel_rfl) (by kernel_rfl) (by kernel_rfl) (fun _ _ _ h => h) (Or.inl ⟨by rfl, ?rt⟩) (by assumption) ?_; case rt => (intro w hSw; (try dsimp only at hSw); go_simp; (try with_reducible rfl))); (try simp only [Act.put, List.getElem_toArray, List.getElem_cons_succ, List.getElem_cons_zero, List.setIfInBounds_toArray, List.set_cons_zero, List.set_cons_succ])
        (refine wpAnyH_take (i := 2) (v := ?_) rfl (by kernel_rfl) (by kernel_rfl) (by kernel_rfl) (fun _ _ _ h => h) (Or.inl ⟨by rfl, ?rt⟩) (by assumption) ?_; case rt => (intro w hSw; (try dsimp only at hSw); go_simp; (try with_reducible rfl))); (try simp only [Act.put, List.getElem_toArray, List.getElem_cons_succ, List.getElem_cons_zero, List.setIfInBounds_toArray, List.set_cons_zero, List.set_cons_succ])
        (refine wpAnyH_take (i := 3) (v := ?_) rfl (by kernel_rfl) (by kernel_rfl) (by kernel_rfl) (fun _ _ _ h => h) (Or.inl ⟨by rfl, ?rt⟩) (by assumption) ?_; case rt => (intro w hSw; (try dsimp only at hSw); go_simp; (try with_reducible rfl))); (try simp only [Act.put, List.getElem_toArray, List.getElem_cons_succ, List.getElem_cons_zero, List.setIfInBounds_toArray, List.set_cons_zero, List.set_cons_succ])
        (refine wpAnyH_take (i := 4) (v := ?_) rfl (by kernel_rfl) (by kernel_rfl) (by kernel_rfl) (fun _ _ _ h => h) (Or.inl ⟨by rfl, ?rt⟩) (by assumption) ?_; case rt => (intro w hSw; (try dsimp only at hSw); go_simp; (try with_reducible rfl))); (try simp only [Act.put, List.getElem_toArray, List.getElem_cons_succ, List.getElem_cons_zero, List.setIfInBounds_toArray, List.set_cons_zero, List.set_cons_succ])
        (refine wpAnyH_take (i := 5) (v := ?_) rfl (by kernel_rfl) (by kernel_rfl) (by kernel_rfl) (fun _ _ _ h => h) (Or.inl ⟨by rfl, ?rt⟩) (by assumption) ?_; case rt => (intro w hSw; (try dsimp only at hSw); go_simp; (try with_reducible rfl))); (try simp only [Act.put, List.getElem_toArray, List.getElem_cons_succ, List.getElem_cons_zero, List.setIfInBounds_toArray, List.set_cons_zero, List.set_cons_succ])
        (refine wpAnyH_take (i := 6) (v := ?_) rfl (by kernel_rfl) (by kernel_rfl) (by kernel_rfl) (fun _ _ _ h => h) (Or.inl ⟨by rfl, ?rt⟩) (by assumption) ?_; case rt => (intro w hSw; (try dsimp only at hSw); go_simp; (try with_reducible rfl))); (try simp only [Act.put, List.getElem_toArray, List.getElem_cons_succ, List.getElem_cons_zero, List.setIfInBounds_toArray, List.set_cons_zero, List.set_cons_succ])
        refine wpAnyH_done (by kernel_rfl) ?_ _
        have B7 := Lib.hid (Bt BE.out hHeld.1)
        have E7 := Lib.hid (blk_below E1.out hHeld.1)
        have C7 := Lib.hid (CX.out _ B7.out)
        clear hHeld f3 f4 hgr6 e0 e1 e2 hel
        obtain ⟨⟨e0, e1, e2⟩, _, _, _⟩ := three_cells E7.out
        have hel := cell_lt e0
        go_wp2_with fail
        refine C7.out.mono ?_
        rintro e w8 ⟨rfl, hb8⟩
        have bX := Ba (Below.refl _ w8) (.cells #[.int .i64 x1, .int .i64 x2, .int .i64 x3, .int .i64 x4] 70)
        have B8 := Lib.hid (Bt B7.out (Bt hb8 bX))
        have E8 := Lib.hid (blk_below E7.out (Bt hb8 bX))
        obtain ⟨W8, hW8⟩ : ∃ W8, W8 = w8.alloc (.cells #[.int .i64 x1, .int .i64 x2, .int .i64 x3, .int .i64 x4] 70) := ⟨_, rfl⟩
        rw [← hW8] at B8 E8
        clear hb8 bX C7 e0 e1 e2 hel CX E7 B7
        cases q with
        | true =>
          have hst := HS1.out
          simp only [if_true] at hst
          have HS2 := Lib.hid hst
          obtain ⟨hk1, hk2⟩ := HB1.out rfl
          have hk3 : ¬ ((BX.length : Nat) : Int) ≤ (n : Int) := by omega
          have hk4 : (n : Int) < ((BX.length : Nat) : Int) := by omega
          obtain ⟨p', c', e', _, _, hcl⟩ := X9.out
          simp only [Value.slice.injEq] at e'
          obtain ⟨rfl, _, rfl⟩ := e'
          obtain ⟨g9, o9, rfl, hg9, hcells⟩ := hcl (by omega)
          have f1 : w9.cell? ⟨g9, o9 + n * 2, none⟩ = some (.int .i64 BX[n]!.1) := sl_at lenH hcells hk1 0 _ rfl
          have f2 : w9.cell? ⟨g9, o9 + n * 2 + 1, none⟩ = some (.int .i64 BX[n]!.2) := sl_at lenH hcells hk1 1 _ rfl
          rw [hk2] at f1 f2
          dsimp only at f1 f2
          replace f1 := Bc B8.out hg9 f1
          replace f2 := Bc B8.out hg9 f2
          have hgr9 : g9 < W8.heap.size := Nat.lt_of_lt_of_le hg9 B8.out.size
          obtain ⟨⟨e0, e1, e2⟩, _, _, _⟩ := three_cells E8.out
          have hel := cell_lt e0
          have hn9 : (n : Int) + 1 ≤ 9223372036854775807 := by omega
          clear hst HS1 hk2 hcells hcl
          go_wp2_with fail
          rw [← hW8]
          clear hW8
          refine wp_region_held_drew (S := (fun w' => Below (W8).heap.size (W8) w' ∧ ∀ b_1 o, b_1 < (W8).heap.size → w'.cell? ⟨b_1, o, none⟩ = (W8).cell? ⟨b_1, o, none⟩)) (by kernel_rfl) (keep0 _) (fun hHeld => ?_)
          (refine wpAnyH_take (i := 0) (v := ?_) rfl (by kernel_rfl) (by kernel_rfl) (by kernel_rfl) (fun _ _ _ h => h) (Or.inl ⟨by rfl, ?rt⟩) (by assumption) ?_; case rt => (intro w hSw; (try dsimp only at hSw); go_simp; (try with_reducible rfl))); (try simp only [Act.put, List.getElem_toArray, List.getElem_cons_succ, List.getElem_cons_zero, List.setIfInBounds_toArray, List.set_cons_zero, List.set_cons_succ])
          (refine wpAnyH_take (i := 1) (v := ?_) rfl (by kernel_rfl) (by kernel_rfl) (by kernel_rfl) (fun _ _ _ h => h) (Or.inl ⟨by rfl, ?rt⟩) (by assumption) ?_; case rt => (intro w hSw; (try dsimp only at hSw); go_simp; (try with_reducible rfl))); (try simp only [Act.put, List.getElem_toArray, List.getElem_cons_succ, List.getElem_cons_zero, List.setIfInBounds_toArray, List.set_cons_zero, List.set_cons_succ])
          (refine wpAnyH_take (i := 2) (v := ?_) rfl (by kernel_rfl) (by kernel_rfl) (by kernel_rfl) (fun _ _ _ h => h) (Or.inl ⟨by rfl, ?rt⟩) (by assumption) ?_; case rt => (intro w hSw; (try dsimp only at hSw); go_simp; (try with_reducible rfl))); (try simp only [Act.put, List.getElem_toArray, List.getElem_cons_succ, List.getElem_cons_zero, List.setIfInBounds_toArray, List.set_cons_zero, List.set_cons_succ])
          (refine wpAnyH_take (i := 3) (v := ?_) rfl (by kernel_rfl) (by kernel_rfl) (by kernel_rfl) (fun _ _ _ h => h) (Or.inl ⟨by rfl, ?rt⟩) (by assumption) ?_; case rt => (intro w hSw; (try dsimp only at hSw); go_simp; (try with_reducible rfl))); (try simp only [Act.put, List.getElem_toArray, List.getElem_cons_succ, List.getElem_cons_zero, List.setIfInBounds_toArray, List.set_cons_zero, List.set_cons_succ])
          rw [show decide (BX.length ≤ n) = false from decide_eq_false (by omega)]
          (refine wpAnyH_take (i := 4) (v := ?_) rfl (by kernel_rfl) (by kernel_rfl) (by kernel_rfl) (fun _ _ _ h => h) (Or.inl ⟨by rfl, ?rt⟩) (by assumption) ?_; case rt => (intro w hSw; (try dsimp only at hSw); go_simp; (try with_reducible rfl))); (try simp only [Act.put, List.getElem_toArray, List.getElem_cons_succ, List.getElem_cons_zero, List.setIfInBounds_toArray, List.set_cons_zero, List.set_cons_succ])
          (refine wpAnyH_take (i := 5) (v := ?_) rfl (by kernel_rfl) (by kernel_rfl) (by kernel_rfl) (fun _ _ _ h => h) (Or.inl ⟨by rfl, ?rt⟩) (by assumption) ?_; case rt => (intro w hSw; (try dsimp only at hSw); go_simp; (try with_reducible rfl))); (try simp only [Act.put, List.getElem_toArray, List.getElem_cons_succ, List.getElem_cons_zero, List.setIfInBounds_toArray, List.set_cons_zero, List.set_cons_succ])
          (refine wpAnyH_take (i := 6) (v := ?_) rfl (by kernel_rfl) (by kernel_rfl) (by kernel_rfl) (fun _ _ _ h => h) (Or.inl ⟨by rfl, ?rt⟩) (by assumption) ?_; case rt => (intro w hSw; (try dsimp only at hSw); go_simp; (try with_reducible rfl))); (try simp only [Act.put, List.getElem_toArray, List.getElem_cons_succ, List.getElem_cons_zero, List.setIfInBounds_toArray, List.set_cons_zero, List.set_cons_succ])
          (refine wpAnyH_take (i := 7) (v := ?_) rfl (by kernel_rfl) (by kernel_rfl) (by kernel_rfl) (fun _ _ _ h => h) (Or.inl ⟨by rfl, ?rt⟩) (by assumption) ?_; case rt => (intro w hSw; (try dsimp only at hSw); go_simp; (try with_reducible rfl))); (try simp only [Act.put, List.getElem_toArray, List.getElem_cons_succ, List.getElem_cons_zero, List.setIfInBounds_toArray, List.set_cons_zero, List.set_cons_succ])
          (refine wpAnyH_take (i := 8) (v := ?_) rfl (by kernel_rfl) (by kernel_rfl) (by kernel_rfl) (fun _ _ _ h => h) (Or.inl ⟨by rfl, ?rt⟩) (by assumption) ?_; case rt => (intro w hSw; (try dsimp only at hSw); go_simp; (try with_reducible rfl))); (try simp only [Act.put, List.getElem_toArray, List.getElem_cons_succ, List.getElem_cons_zero, List.setIfInBounds_toArray, List.set_cons_zero, List.set_cons_succ])
          (refine wpAnyH_take (i := 9) (v := ?_) rfl (by kernel_rfl) (by kernel_rfl) (by kernel_rfl) (fun _ _ _ h => h) (Or.inl ⟨by rfl, ?rt⟩) (by assumption) ?_; case rt => (intro w hSw; (try dsimp only at hSw); go_simp; (try with_reducible rfl))); (try simp only [Act.put, List.getElem_toArray, List.getElem_cons_succ, List.getElem_cons_zero, List.setIfInBounds_toArray, List.set_cons_zero, List.set_cons_succ])
          (refine wpAnyH_take (i := 10) (v := ?_) rfl (by kernel_rfl) (by kernel_rfl) (by kernel_rfl) (fun _ _ _ h => h) (Or.inl ⟨by rfl, ?rt⟩) (by assumption) ?_; case rt => (intro w hSw; (try dsimp only at hSw); go_simp; (try with_reducible rfl))); (try simp only [Act.put, List.getElem_toArray, List.getElem_cons_succ, List.getElem_cons_zero, List.setIfInBounds_toArray, List.set_cons_zero, List.set_cons_succ])
          (refine wpAnyH_take (i := 11) (v := ?_) rfl (by kernel_rfl) (by kernel_rfl) (by kernel_rfl) (fun _ _ _ h => h) (Or.inl ⟨by rfl, ?rt⟩) (by assumption) ?_; case rt => (intro w hSw; (try dsimp only at hSw); go_simp; (try with_reducible rfl))); (try simp only [Act.put, List.getElem_toArray, List.getElem_cons_succ, List.getElem_cons_zero, List.setIfInBounds_toArray, List.set_cons_zero, List.set_cons_succ])
          (refine wpAnyH_take (i := 12) (v := ?_) rfl (by kernel_rfl) (by kernel_rfl) (by kernel_rfl) (fun _ _ _ h => h) (Or.inl ⟨by rfl, ?rt⟩) (by assumption) ?_; case rt => (intro w hSw; (try dsimp only at hSw); go_simp; (try with_reducible rfl))); (try simp only [Act.put, List.getElem_toArray, List.getElem_cons_succ, List.getElem_cons_zero, List.setIfInBounds_toArray, List.set_cons_zero, List.set_cons_succ])
          refine wpAnyH_done (by kernel_rfl) ?_ _
          have B10 := Lib.hid (Bt B8.out hHeld.1)
          clear hHeld f1 f2 e0 e1 e2 hel hgr9
          go_wp2
          go_roundw
          case measure => simp [intOf]; omega
          case rel => exact ⟨i + 1, n + 1, by go_num, by go_num, by omega, by omega, Lib.hid (by rw [HS2.out, List.length_append, ← HN.out]; rfl), B10⟩
        | false =>
          have hst := HS1.out
          simp only [Bool.false_eq_true, if_false] at hst
          have HS2 := Lib.hid hst
          clear hst HS1
          go_wp2_with fail
          rw [← hW8]
          clear hW8
          go_roundw
          case measure => simp [intOf]; omega
          case rel => exact ⟨i + 1, n, by go_num, rfl, by omega, by omega, Lib.hid (by rw [HS2.out]; exact HN.out), B8⟩
      · have hkk : i = X.length := by omega
        have hn9 := HN.out
        rw [hkk, List.take_length, HBX.out] at hn9
        have hnz : (n : Int) = (BX.length : Int) := by omega
        have BF := Lib.hid (Bt B2.out (Bt B9.out HB.out))
        clear hkk hn9
        go_wp2
        go_ret
        exact ⟨by simp, BF.out⟩
end
end Go.Proofs.YtaehendpdfpibaaGreatDoor

/-
  Whatever rows and masks it is given, QueryAnswers answers true and leaves its arguments as they were. Conditions: the errors' variables that it names read as the program's text lays them (the card ties them to that text).
-/
namespace Go.Proofs.YtaehendpdfpibaaGreatDoor
set_option linter.unusedSimpArgs false
set_option linter.unusedVariables false
open Go.ChangeShapes Go.WideShapes Go.ChangeAt Go.RowKit Go.Joins

set_option maxRecDepth 100000 in
theorem queryAnswers_lifted (os : Os) (started : os.Started) (H : Type) (enc : TypeId × Value → H) :
    ReturnsInHanded {} Tryz.checked os 4 .any (fun w args => (Rows.queryAnswersSpec.pre enc Tryz.prog Tryz.f4 [] false w args ∧ laidMetH Tryz.prog Rows.queryAnswersRow.laid w) ∧ sizedMet enc Tryz.prog Tryz.f4 (OpenSpec.ofChange Rows.queryAnswersSpec) false w args)
      (Rows.queryAnswersSpec.post enc Tryz.prog Tryz.f4 false true false false) := by
  refine returnsInHanded_of_change_and (C := Tryz.checked) (X := fun w _ => laidMetH Tryz.prog Rows.queryAnswersRow.laid w) (fun _ _ _ hh h => h.of_heap hh) own started (by kernel_rfl) Tryz.func4
    (ChangeSpec.witness_shaped (enc := enc) (C := Tryz.checked) (os := os) (X := fun w _ => laidMetH Tryz.prog Rows.queryAnswersRow.laid w) false (World.doorLaid Tryz.prog 247 os) #[.agg #[.slice none 0 0, .int .u64 0, .int .u64 0]] 8 rfl (World.shaped_of_RefB (by kernel_rfl) (by kernel_rfl)) (by kernel_rfl) (by kernel_rfl) (by kernel_rfl) (laidMetH_of_parts3 (fuel := 8) (laidMet_of_run' 8 (by kernel_rfl) (by kernel_rfl)) (by kernel_rfl) (by kernel_rfl))) ?_
  intro W base args ds gs before hval0 hW _ _ hL _
  have hval : ∀ (j : Nat) t v, Tryz.f4.params[j]? = some t → args[j]? = some v → Value.okWide Tryz.prog W .any base t v := hval0
  have hW' := hW
  obtain ⟨p, q, hA0, hV, rfl, hfz, hnd⟩ := hW
  have hA : DataW.TrodAll enc Tryz.prog W 0 (fun _ => true) true Tryz.f4.params.toList args.toList ds p := hA0
  rw [Tryz.params4] at hA hval
  obtain ⟨v0, vs0, d0, ds0, p0, q0, hargs, rfl, rfl, h0, r0⟩ := trodAll_cons hA
  obtain ⟨rfl, rfl, rfl⟩ := trodAll_nil r0
  obtain rfl : args = #[v0] := by cases args; simp_all
  obtain ⟨c0, l0, x0, y0, rfl, hl0, hr0, w0, u0⟩ := open_ask (hval 0 56 v0 rfl rfl) h0
  clear hA0 hval0
  have hL' : laidMet Tryz.prog Rows.queryAnswersRow.laid W := by
    have h := hL
    rw [MakeChecks.laidMetH_plain _ _ _ (by kernel_rfl)] at h
    exact h
  have hT := tab_of hL'
  obtain ⟨A, hE⟩ := er8_list hL' (.tail _ (.head _)) (.tail _ (.tail _ (.head _))) (.tail _ (.tail _ (.tail _ (.head _)))) (.tail _ (.tail _ (.tail _ (.tail _ (.head _))))) (.tail _ (.tail _ (.tail _ (.tail _ (.tail _ (.head _)))))) (.tail _ (.tail _ (.tail _ (.tail _ (.tail _ (.tail _ (.head _)))))))
  refine (queryAnswers_walk x0 y0 w0 u0 l0 c0 W hl0 hr0 hE hT).mono fun e W' ⟨he, hb⟩ => ?_
  subst he
  exact ⟨_, rfl, law_post laidOut (by kernel_rfl) rfl (by kernel_rfl) Tryz.underlying4 (fun ds hd => by match ds, hd with | [_], _ => rfl) hW' hb⟩

theorem queryAnswers_row : Rows.QueryAnswersSaid :=
  OpenClaim.holds_of_wide 4 Tryz.f4 rfl rfl rfl rfl rfl rfl rfl ⟨rfl, rfl, rfl, rfl, rfl⟩ rfl rfl rfl rfl rfl (by kernel_rfl) Tryz.func4 (by kernel_rfl)
    (of_decide_eq_true (by kernel_rfl)) (by unfold Func.isWrapper; first | (rw [if_pos (by decide +kernel)]; kernel_rfl) | (rw [if_neg (by decide +kernel)]; exact ⟨rfl, rfl⟩))
    (fun os started H enc _ => queryAnswers_lifted os started H enc)

theorem queryAnswers_holds : Rows.QueryAnswersCardSaid :=
  Claim7.holds_tied_plain_at .later [] Rows.queryAnswersCard.laidKinds true Rows.queryAnswersCard.stood.harness true
    queryAnswers_row (fun _ h => by cases h) (by kernel_rfl) (fun _ h => by cases h) queryAnswers_row_tie rfl ⟨rfl, rfl⟩ (by kernel_rfl) rfl
    (fun f fn hf hfn => by
      obtain rfl : f = 4 := Option.some.inj ((show Tryz.prog.funcNamed "paddock/paddocklaw09.QueryAnswers" = some 4 by kernel_rfl).symm.trans hf) |>.symm
      obtain rfl : fn = Tryz.f4 := (Option.some.inj (Tryz.func4.symm.trans hfn)).symm
      exact ⟨by kernel_rfl, fun j t ht => by
        rw [Tryz.params4] at ht
        have hm : t ∈ [56] := by
          have := Array.mem_of_getElem? ht
          simp at this ⊢
          omega
        have hall : ([56].all fun u => !Tryz.prog.wantsStandIn u) = true := by kernel_rfl
        exact (show Tryz.prog.wantsStandIn t = false by simpa using List.all_eq_true.1 hall t hm)⟩)
    (by kernel_rfl)
#print axioms queryAnswers_holds
end Go.Proofs.YtaehendpdfpibaaGreatDoor
