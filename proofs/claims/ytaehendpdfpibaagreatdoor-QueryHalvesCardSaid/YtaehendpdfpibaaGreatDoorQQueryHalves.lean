import Derived.Test.YtaehendpdfpibaaGreatDoorZ27
import Derived.Test.YtaehendpdfpibaaGreatDoorZ24
import Derived.Deep.RegionHeld3
import Derived.Test.YtaehendpdfpibaaGreatDoorZ13

/-
  The walk of QueryHalves (written by mkq9.py).
-/
namespace Go.Proofs.YtaehendpdfpibaaGreatDoor
set_option linter.unusedSimpArgs false
set_option linter.unusedVariables false
open Go.RowKit Go.Sort Go.Lib Go.Shelf

section
variable {A : Nat → Addr}
set_option maxHeartbeats 8000000 in
set_option maxRecDepth 100000 in
theorem queryHalves_walk (x : Int) (l : List Rr) (v : Value) (w : World) (hl : Sl encRr w v l) (hr : ∀ r ∈ l, Sl encV w r.1 r.2) (hE : Er8 w A) (hT : TabW w) :
    Calls Tryz.prog 6 #[v, .int .i64 x] w fun e w' => e = .returned (.bool true) ∧ RowKit.Below w.heap.size w w' := by
  have bl : RowKit.Below w.heap.size w (w) := (by repeat (first | with_reducible exact Below.refl _ _ | with_reducible assumption | with_reducible apply Ba | with_reducible apply Bd | with_reducible apply Bn | with_reducible apply Bg | (with_reducible refine Bs ?_ (by first | (simp; done) | (simp; omega)) _) | (with_reducible refine Bt ?_ (by assumption)) | (with_reducible refine Bt ?_ (Gr.below (by assumption)))))
  have BL := Lib.hid bl
  have C0 := Lib.hid (alive9_any (w) (A 4) (hE.below bl).e7.er.kind)
  have HRw := Lib.hid (show ∀ W, RowKit.Below w.heap.size w W → ∀ r ∈ l, Sl encV W r.1 r.2 from fun W hb r h => (hr r h).below hb)
  have HV := Lib.hid (show ∀ W, RowKit.Below w.heap.size w W → Sl encRr W v l from fun W hb => hl.below hb)
  have CF : Hid (∀ W, RowKit.Below w.heap.size w W → Calls Tryz.prog 21 #[v] W fun e w' => RowKit.Below W.heap.size W w' ∧
        ((e = .returned (.tuple #[.pointer none, .pointer none, .bool false]) ∧ (40 < l.length ∨ bigR l = true)) ∨
         ∃ ps pr L, e = .returned (.tuple #[psP ps, rsP pr, .bool true]) ∧ l.length ≤ 40 ∧ bigR l = false ∧ TwoS W.heap.size w' ps pr L)) := fun W hb => filled_call l v W (HV.out W hb) (HRw.out W hb) (hE.below hb) (hT.below hb)
  have CL : Hid (∀ W, RowKit.Below w.heap.size w W → Calls Tryz.prog 22 #[v] W fun e w' => e = .returned (.bool (bigR l)) ∧ RowKit.Below W.heap.size W w') := fun W hb => long_call l v W (HV.out W hb) (HRw.out W hb)
  have HA := Lib.hid (show ∀ W, RowKit.Below w.heap.size w W → Era W.heap.size W A from fun W hb => Era.of (hE.below hb) (hT.below hb) (Nat.le_refl _))
  have HE := Lib.hid hE
  obtain ⟨pv, cv, rfl, hcv, hcm, _⟩ := hl
  have hcv2 : l.length ≤ 9223372036854775807 := by unfold maxLen at hcm; omega
  clear hE hT hr bl HRw HV hcm
  go_enter Tryz.func6, Tryz.ntmps6
  go_wp2_with fail
  refine C0.out.mono ?_
  rintro e w1 ⟨rfl, hb1⟩
  have B1 := Lib.hid (Bt BL.out hb1)
  clear hb1 C0
  go_wp2_with fail
  refine (CF.out w1 B1.out).mono ?_
  rintro e w2 ⟨hb2, hc⟩
  have B2 := Lib.hid (Bt B1.out hb2)
  clear CF
  rcases hc with ⟨rfl, hbig⟩ | ⟨ps, pr, L, rfl, hl40, hnb, hTW⟩
  · by_cases h40 : 40 < l.length
    · have h40' : (l.length : Int) > 40 := by omega
      clear hbig hb2
      go_wp2
      go_ret
      exact ⟨rfl, B2.out⟩
    · have h40' : ¬ (l.length : Int) > 40 := by omega
      have CL2 := Lib.hid (CL.out w2 B2.out)
      rw [hbig.resolve_left h40] at CL2
      clear hbig hb2
      go_wp2_with fail
      refine CL2.out.mono ?_
      rintro e w3 ⟨rfl, hb3⟩
      have B3 := Lib.hid (Bt B2.out hb3)
      clear hb3 CL2
      go_wp2
      go_ret
      exact ⟨rfl, B3.out⟩
  · obtain ⟨N, M, hS, hRS, hMN⟩ := hTW
    have S2 := Lib.hid hS
    have R2 := Lib.hid hRS
    have HG := Lib.hid hS.good
    have A2 := Lib.hid ((HA.out w1 B1.out).below hb2)
    clear hS hRS hMN hb2 hnb CL
    obtain ⟨m, hm, he⟩ := idx_any x 10 (by decide) (by decide)
    have hA1 : IntKind.i64.wrap ((IntKind.u64.wrap x).tmod 10) = (m : Int) := by
      have he9 := he
      change wrap64 ((IntKind.u64.wrap x).tmod 10) = (m : Int) at he9
      generalize (IntKind.u64.wrap x).tmod 10 = t at he9 ⊢
      rw [IntKind.wrap_i64]
      unfold wrap64 at he9
      exact he9
    change wrap64 ((IntKind.u64.wrap x).tmod 10) = (m : Int) at he
    have hX : 2 ^ m < 18446744073709551616 := Nat.lt_of_lt_of_le (Nat.pow_lt_pow_right (by decide) hm) (by decide)
    obtain ⟨z, hz⟩ : ∃ z : Nat, z = 0 := ⟨_, rfl⟩
    have hkb : kindB (m : Int) = true := (kindB_iff _).2 ⟨by omega, by omega⟩
    have hv1 : qofV [(m : Int)] [] (A 4) = .tuple #[qV (2 ^ m) z, .nilIface] := by
      unfold qofV
      rw [show ([(m : Int)].all kindB && ([] : List Int).all kindB) = true by simp [hkb], if_pos rfl, one_kind, hz]
      rfl
    have hv2 : qofV [] [(m : Int)] (A 4) = .tuple #[qV z (2 ^ m), .nilIface] := by
      unfold qofV
      rw [show (([] : List Int).all kindB && [(m : Int)].all kindB) = true by simp [hkb], if_pos rfl, one_kind, hz]
      rfl
    obtain ⟨h1, h2, h3⟩ := ans_halves HG.out.rise m
    rw [← hz] at h1 h2 h3
    have hz9 : z < 18446744073709551616 := by omega
    have hna := Nat.le_trans (Nat.le_of_eq (hds_len9 (ansE L (2 ^ m) z))) (Nat.le_trans (len_ans L (2 ^ m) z) HG.out.len)
    have hnb := Nat.le_trans (Nat.le_of_eq (hds_len9 (ansE L z (2 ^ m)))) (Nat.le_trans (len_ans L z (2 ^ m)) HG.out.len)
    have hnc := Nat.le_trans (Nat.le_of_eq (hds_len9 L)) HG.out.len
    have bA := Ba (Below.refl _ w2) (.cells #[.int .i64 (m : Int)] 3)
    have SA := Lib.hid (sl_lit (enc := encI) (w := w2) (cs := #[.int .i64 (m : Int)]) (t := 3) (b := w2.heap.size) [(m : Int)] rfl rfl (by unfold maxLen; simp))
    have C1 := Lib.hid (qof_call [(m : Int)] [] _ (.slice none 0 0) (A 4) _ SA.out (Sl.nil none 0 (Nat.zero_le _)) (HE.out.below (Bt B2.out bA)).e7.er.kind)
    rw [hv1] at C1
    have C2 : Hid (∀ W v, RowKit.Below w.heap.size w W → Sl encI W v [(m : Int)] → Calls Tryz.prog 32 #[.slice none 0 0, v] W fun e w' => e = .returned (.tuple #[qV z (2 ^ m), .nilIface]) ∧ RowKit.Below W.heap.size W w') := fun W v hb hv => by
      have := qof_call [] [(m : Int)] (.slice none 0 0) v (A 4) W (Sl.nil none 0 (Nat.zero_le _)) hv (HE.out.below hb).e7.er.kind
      rwa [hv2] at this
    have CH1 : Hid (∀ W, RowKit.Below w2.heap.size w2 W → Calls Tryz.prog 24 #[qV (2 ^ m) z, psP ps] W fun e w' => ∃ v, e = .returned v ∧ Sl encH w' v (hds (ansE L (2 ^ m) z)) ∧ RowKit.Below W.heap.size W w') := fun W hb => qhandles (S2.out.below hb) _ _ hX hz9
    have CH2 : Hid (∀ W, RowKit.Below w2.heap.size w2 W → Calls Tryz.prog 24 #[qV z (2 ^ m), psP ps] W fun e w' => ∃ v, e = .returned v ∧ Sl encH w' v (hds (ansE L z (2 ^ m))) ∧ RowKit.Below W.heap.size W w') := fun W hb => qhandles (S2.out.below hb) _ _ hz9 hX
    have CH3 : Hid (∀ W, RowKit.Below w2.heap.size w2 W → Calls Tryz.prog 24 #[.agg #[.int .u64 0, .int .u64 0], psP ps] W fun e w' => ∃ v, e = .returned v ∧ Sl encH w' v (hds L) ∧ RowKit.Below W.heap.size W w') := fun W hb => by
      have := qhandles (S2.out.below hb) 0 0 (by decide) (by decide)
      rwa [ans_all] at this
    have CB : Hid (∀ W, Calls Tryz.prog 30 #[qV (2 ^ m) z, qV z (2 ^ m)] W fun e w' => e = .returned (qV (2 ^ m ||| z) (z ||| 2 ^ m)) ∧ RowKit.Below W.heap.size W w') := fun W => qboth _ _ _ _ hX hz9 hz9 hX W
    have CC : Hid (∀ W, RowKit.Below w2.heap.size w2 W → Calls Tryz.prog 27 #[qV (2 ^ m ||| z) (z ||| 2 ^ m), psP ps] W fun e w' => e = .returned (.int .i64 0) ∧ RowKit.Below W.heap.size W w') := fun W hb => by
      have := qcount (S2.out.below hb) (2 ^ m ||| z) (z ||| 2 ^ m) (Nat.or_lt_two_pow (n := 64) hX hz9) (Nat.or_lt_two_pow (n := 64) hz9 hX)
      have hz0 : ((z : Nat) : Int) = 0 := by rw [hz]; rfl
      rw [h3, hz0] at this
      exact this
    generalize 2 ^ m ||| z = X1 at *
    generalize z ||| 2 ^ m = X2 at *
    generalize hds (ansE L (2 ^ m) z) = LA at *
    generalize hds (ansE L z (2 ^ m)) = LB at *
    generalize hds L = LC at *
    generalize 2 ^ m = X at *
    have H2 := Lib.hid h2
    have H1 := Lib.hid h1
    clear hv1 hv2 h1 h2 h3 hX hz hz9 hkb bA SA S2 A2 R2 HG
    go_wp2_with fail
    refine C1.out.mono ?_
    rintro e w3 ⟨rfl, hb3⟩
    have B3 := Lib.hid (Bt (Ba (Below.refl _ w2) (.cells #[.int .i64 (m : Int)] 3)) hb3)
    have bQ := Ba (Below.refl _ w3) (qB X z)
    have Q3 := Lib.hid (heap_alloc_new w3 (qB X z))
    have bI := Ba bQ (.cells #[.int .i64 (m : Int)] 3)
    have B4 := Lib.hid (Bt B3.out bI)
    have Q4 := Lib.hid (blk_below Q3.out (Ba (Below.refl _ _) (.cells #[.int .i64 (m : Int)] 3)))
    have hs4 : w3.heap.size + 1 = (w3.alloc (qB X z)).heap.size := by simp
    have C3 := Lib.hid (C2.out _ (.slice (some ⟨w3.heap.size + 1, 0, none⟩) 1 1) (Bt B2.out B4.out) (sl_lit (enc := encI) (w := w3.alloc (qB X z)) (cs := #[.int .i64 (m : Int)]) (t := 3) (b := w3.heap.size + 1) [(m : Int)] hs4 rfl (by unfold maxLen; simp)))
    clear hb3 bQ bI C1 C2 hs4 B3
    go_wp2_with fail
    refine C3.out.mono ?_
    rintro e w5 ⟨rfl, hb5⟩
    have bQ := Ba (Below.refl _ w5) (qB z X)
    have B5 := Lib.hid (Bt B4.out (Bt hb5 bQ))
    have Q5 := Lib.hid (blk_below Q4.out (Bt hb5 bQ))
    have Q6 := Lib.hid (heap_alloc_new w5 (qB z X))
    obtain ⟨q1, hq1⟩ : ∃ q1, q1 = w3.heap.size := ⟨_, rfl⟩
    obtain ⟨q2, hq2⟩ : ∃ q2, q2 = w5.heap.size := ⟨_, rfl⟩
    obtain ⟨W6, hW6⟩ : ∃ W6, W6 = w5.alloc (qB z X) := ⟨_, rfl⟩
    rw [← hW6, ← hq1] at Q5
    rw [← hW6, ← hq2] at Q6
    rw [← hW6] at B5
    clear hb5 bQ C3 Q3 Q4 B4 hm he hA1
    go_wp2_with fail
    rw [← hW6, ← hq1, ← hq2]
    clear hW6 hq1 hq2
    obtain ⟨a0, a1, _, _⟩ := two_cells Q5.out
    have hal := cell_lt a0
    obtain ⟨b0, b1, _, _⟩ := two_cells Q6.out
    have hbl := cell_lt b0
    refine wp_region_held_drew (S := (fun w' => Below (W6).heap.size (W6) w' ∧ ∀ b_1 o, b_1 < (W6).heap.size → w'.cell? ⟨b_1, o, none⟩ = (W6).cell? ⟨b_1, o, none⟩)) (by kernel_rfl) (keep0 _) (fun hHeld => ?_)
    (refine wpAnyH_take (i := 0) (v := ?_) rfl (by kernel_rfl) (by kernel_rfl) (by kernel_rfl) (fun _ _ _ h => h) (Or.inl ⟨by rfl, ?rt⟩) (by assumption) ?_; case rt => (intro w hSw; (try dsimp only at hSw); go_simp; (try with_reducible rfl))); (try simp only [Act.put, List.getElem_toArray, List.getElem_cons_succ, List.getElem_cons_zero, List.setIfInBounds_toArray, List.set_cons_zero, List.set_cons_succ])
    (refine wpAnyH_take (i := 1) (v := ?_) rfl (by kernel_rfl) (by kernel_rfl) (by kernel_rfl) (fun _ _ _ h => h) (Or.inl ⟨by rfl, ?rt⟩) (by assumption) ?_; case rt => (intro w hSw; (try dsimp only at hSw); go_simp; (try with_reducible rfl))); (try simp only [Act.put, List.getElem_toArray, List.getElem_cons_succ, List.getElem_cons_zero, List.setIfInBounds_toArray, List.set_cons_zero, List.set_cons_succ])
    (refine wpAnyH_take (i := 3) (v := ?_) rfl (by kernel_rfl) (by kernel_rfl) (by kernel_rfl) (fun _ _ _ h => h) (Or.inl ⟨by rfl, ?rt⟩) (by assumption) ?_; case rt => (intro w hSw; (try dsimp only at hSw); go_simp; (try with_reducible rfl))); (try simp only [Act.put, List.getElem_toArray, List.getElem_cons_succ, List.getElem_cons_zero, List.setIfInBounds_toArray, List.set_cons_zero, List.set_cons_succ])
    (refine wpAnyH_take (i := 4) (v := ?_) rfl (by kernel_rfl) (by kernel_rfl) (by kernel_rfl) (fun _ _ _ h => h) (Or.inl ⟨by rfl, ?rt⟩) (by assumption) ?_; case rt => (intro w hSw; (try dsimp only at hSw); go_simp; (try with_reducible rfl))); (try simp only [Act.put, List.getElem_toArray, List.getElem_cons_succ, List.getElem_cons_zero, List.setIfInBounds_toArray, List.set_cons_zero, List.set_cons_succ])
    refine wpAnyH_ready (rs := [2]) (by kernel_rfl) (by simp) ?_
    refine AllReadyH.cons rfl (fun K hK => ?_) AllReadyH.nil
    go_simp
    refine (CH1.out _ (Bt B5.out hHeld.1)).mono ?_
    rintro e w7 ⟨v7, rfl, hs7, hb7⟩
    refine hK.out _ _ (keepB (by assumption) hb7) (fun hHeld => ?_)
    clear hK K
    (try simp only [Act.put, List.getElem_toArray, List.getElem_cons_succ, List.getElem_cons_zero, List.setIfInBounds_toArray, List.set_cons_zero, List.set_cons_succ])
    refine wpAnyH_ready (rs := [5]) (by kernel_rfl) (by simp) ?_
    refine AllReadyH.cons rfl (fun K hK => ?_) AllReadyH.nil
    go_simp
    refine (CH2.out _ (Bt B5.out hHeld.1)).mono ?_
    rintro e w8 ⟨v8, rfl, hs8, hb8⟩
    refine hK.out _ _ (keepB (by assumption) hb8) (fun hHeld => ?_)
    clear hK K
    (try simp only [Act.put, List.getElem_toArray, List.getElem_cons_succ, List.getElem_cons_zero, List.setIfInBounds_toArray, List.set_cons_zero, List.set_cons_succ])
    (refine wpAnyH_take (i := 6) (v := ?_) rfl (by kernel_rfl) (by kernel_rfl) (by kernel_rfl) (fun _ _ _ h => h) (Or.inl ⟨by rfl, ?rt⟩) (by assumption) ?_; case rt => (intro w hSw; (try dsimp only at hSw); go_simp; (try with_reducible rfl))); (try simp only [Act.put, List.getElem_toArray, List.getElem_cons_succ, List.getElem_cons_zero, List.setIfInBounds_toArray, List.set_cons_zero, List.set_cons_succ])
    (refine wpAnyH_take (i := 7) (v := ?_) rfl (by kernel_rfl) (by kernel_rfl) (by kernel_rfl) (fun _ _ _ h => h) (Or.inl ⟨by rfl, ?rt⟩) (by assumption) ?_; case rt => (intro w hSw; (try dsimp only at hSw); go_simp; (try with_reducible rfl))); (try simp only [Act.put, List.getElem_toArray, List.getElem_cons_succ, List.getElem_cons_zero, List.setIfInBounds_toArray, List.set_cons_zero, List.set_cons_succ])
    refine wpAnyH_done (by kernel_rfl) ?_ _
    have B8 := Lib.hid (Bt B5.out hHeld.1)
    have S7 := Lib.hid (hs7.below hb8)
    have S8 := Lib.hid hs8
    have Q7 := Lib.hid (blk_below Q5.out hHeld.1)
    have Q8 := Lib.hid (blk_below Q6.out hHeld.1)
    obtain ⟨p7, c7, rfl, _, _, _⟩ := id hs7
    obtain ⟨p8, c8, rfl, _, _, _⟩ := id hs8
    have C3 := Lib.hid (CH3.out w8 B8.out)
    clear hHeld hs7 hb7 hs8 hb8 CH1 CH2 CH3 a0 a1 hal b0 b1 hbl Q5 Q6
    go_wp2_with fail
    refine C3.out.mono ?_
    rintro e w9 ⟨v9, rfl, hs9, hb9⟩
    have B9 := Lib.hid (Bt B8.out hb9)
    have T7 := Lib.hid (S7.out.below hb9)
    have T8 := Lib.hid (S8.out.below hb9)
    have T9 := Lib.hid hs9
    have V7 := Lib.hid (blk_below Q7.out hb9)
    have V8 := Lib.hid (blk_below Q8.out hb9)
    obtain ⟨p9, c9, rfl, _, _, _⟩ := id hs9
    clear hs9 hb9 C3 S7 S8 Q7 Q8 B8
    have hw : IntKind.i64.wrap ((LA.length : Int) + (LB.length : Int)) = (LC.length : Int) := by rw [IntKind.wrap_i64]; have := H1.out; omega
    have hw2 : wrap64 ((LA.length : Int) + (LB.length : Int)) = (LC.length : Int) := by unfold wrap64; have := H1.out; omega
    have A1 := Lib.hid (Ba (Below.refl _ w9) (.cells #[] 31))
    have O1 := Lib.hid (show (w9.alloc (.cells #[] 31)).ownsRow w9.heap.size 31 2 (.slice (some ⟨w9.heap.size, 0, none⟩) 0 0) ([] : List Hd).length (flat encH []) from World.ownsRow_made w9 #[] 0 (Nat.le_refl _) (Nat.zero_le _) (by simp))
    have SA := Lib.hid (T7.out.below A1.out)
    go_wp2_with (first
      | (at_builtin; refine wpl_app2g apHd (by rfl) _ _ rfl w9.heap.size (by rfl) (by rfl) O1.out rfl SA.out (by simp; omega) A1.out.size ?_; intro va wa howna hgrowa hata hnila; have OA := Lib.hid howna; have BA := Lib.hid (grownB A1.out O1.out hgrowa); have SB := Lib.hid (T8.out.below BA.out); clear howna hgrowa hata hnila)
      | (at_builtin; refine wpl_app2g apHd (by rfl) _ _ rfl w9.heap.size (by rfl) (by rfl) OA.out rfl SB.out (by simp; omega) BA.out.size ?_; intro vb wb hownb hgrowb hatb hnilb; have OB := Lib.hid hownb; have BB := Lib.hid (grownB BA.out OA.out hgrowb); clear hownb hgrowb hatb hnilb))
    obtain ⟨pb, cb, rfl, _, _, _⟩ := row_val OB.out
    have CR := Lib.hid (rhandles_call _ _ wb (row_sl lenH OB.out rfl) (by simp; omega))
    rw [List.nil_append, H2.out] at CR
    clear O1 SA OA SB OB A1
    refine CR.out.mono ?_
    rintro e w10 ⟨v10, rfl, ho10, hn10, hb10⟩
    have B10 := Lib.hid (Bt BB.out hb10)
    have CS := Lib.hid (sameH_call LC LC v10 (.slice p9 LC.length c9) w10 (row_sl lenH ho10 rfl) (T9.out.below B10.out))
    rw [decide_eq_true (rfl : LC = LC)] at CS
    clear ho10 hn10 hb10 CR BB BA
    go_wp2_with fail
    refine CS.out.mono ?_
    rintro e w11 ⟨rfl, hg11⟩
    have B11 := Lib.hid (Bt B10.out hg11.below)
    obtain ⟨a0, a1, _, _⟩ := two_cells (blk_below V7.out B11.out)
    have hal := cell_lt a0
    obtain ⟨b0, b1, _, _⟩ := two_cells (blk_below V8.out B11.out)
    have hbl := cell_lt b0
    clear hg11 CS B10
    go_wp2_with fail
    refine (CB.out w11).mono ?_
    rintro e w12 ⟨rfl, hb12⟩
    have B12 := Lib.hid (Bt B9.out (Bt B11.out hb12))
    have CC2 := Lib.hid (CC.out w12 B12.out)
    clear hb12 a0 a1 hal b0 b1 hbl
    go_wp2_with fail
    refine CC2.out.mono ?_
    rintro e w13 ⟨rfl, hb13⟩
    have B13 := Lib.hid (Bt B2.out (Bt B12.out hb13))
    clear hb13
    go_wp2
    go_ret
    exact ⟨rfl, B13.out⟩
end
end Go.Proofs.YtaehendpdfpibaaGreatDoor

/-
  Whatever rows and number it is given, QueryHalves answers true and leaves its arguments as they were. Conditions: the errors' variables that it names read as the program's text lays them (the card ties them to that text).
-/
namespace Go.Proofs.YtaehendpdfpibaaGreatDoor
set_option linter.unusedSimpArgs false
set_option linter.unusedVariables false
open Go.ChangeShapes Go.WideShapes Go.ChangeAt Go.RowKit Go.Joins

set_option maxRecDepth 100000 in
theorem queryHalves_lifted (os : Os) (started : os.Started) (H : Type) (enc : TypeId × Value → H) :
    ReturnsInHanded {} Tryz.checked os 6 .any (fun w args => (Rows.queryHalvesSpec.pre enc Tryz.prog Tryz.f6 [] false w args ∧ laidMetH Tryz.prog Rows.queryHalvesRow.laid w) ∧ sizedMet enc Tryz.prog Tryz.f6 (OpenSpec.ofChange Rows.queryHalvesSpec) false w args)
      (Rows.queryHalvesSpec.post enc Tryz.prog Tryz.f6 false true false false) := by
  refine returnsInHanded_of_change_and (C := Tryz.checked) (X := fun w _ => laidMetH Tryz.prog Rows.queryHalvesRow.laid w) (fun _ _ _ hh h => h.of_heap hh) own started (by kernel_rfl) Tryz.func6
    (ChangeSpec.witness_shaped (enc := enc) (C := Tryz.checked) (os := os) (X := fun w _ => laidMetH Tryz.prog Rows.queryHalvesRow.laid w) false (World.doorLaid Tryz.prog 247 os) #[.slice none 0 0, .int .i64 0] 8 rfl (World.shaped_of_RefB (by kernel_rfl) (by kernel_rfl)) (by kernel_rfl) (by kernel_rfl) (by kernel_rfl) (laidMetH_of_parts3 (fuel := 8) (laidMet_of_run' 8 (by kernel_rfl) (by kernel_rfl)) (by kernel_rfl) (by kernel_rfl))) ?_
  intro W base args ds gs before hval0 hW _ _ hL _
  have hval : ∀ (j : Nat) t v, Tryz.f6.params[j]? = some t → args[j]? = some v → Value.okWide Tryz.prog W .any base t v := hval0
  have hW' := hW
  obtain ⟨p, q, hA0, hV, rfl, hfz, hnd⟩ := hW
  have hA : DataW.TrodAll enc Tryz.prog W 0 (fun _ => true) true Tryz.f6.params.toList args.toList ds p := hA0
  rw [Tryz.params6] at hA hval
  obtain ⟨v0, vs0, d0, ds0, p0, q0, hargs, rfl, rfl, h0, r0⟩ := trodAll_cons hA
  obtain ⟨v1, vs1, d1, ds1, p1, q1, rfl, rfl, rfl, h1, r1⟩ := trodAll_cons r0
  obtain ⟨rfl, rfl, rfl⟩ := trodAll_nil r1
  obtain rfl : args = #[v0, v1] := by cases args; simp_all
  obtain ⟨l0, hl0, hr0⟩ := open_rows (hval 0 53 v0 rfl rfl) h0
  obtain ⟨x1, rfl, rfl, rfl, w1⟩ := open_int Tryz.underlying3 (hval 1 3 v1 rfl rfl) h1
  clear hA0 hval0
  have hL' : laidMet Tryz.prog Rows.queryHalvesRow.laid W := by
    have h := hL
    rw [MakeChecks.laidMetH_plain _ _ _ (by kernel_rfl)] at h
    exact h
  have hT := tab_of hL'
  obtain ⟨A, hE⟩ := er8_list hL' (.tail _ (.head _)) (.tail _ (.tail _ (.head _))) (.tail _ (.tail _ (.tail _ (.head _)))) (.tail _ (.tail _ (.tail _ (.tail _ (.head _))))) (.tail _ (.tail _ (.tail _ (.tail _ (.tail _ (.head _)))))) (.tail _ (.tail _ (.tail _ (.tail _ (.tail _ (.tail _ (.head _)))))))
  refine (queryHalves_walk x1 l0 v0 W hl0 hr0 hE hT).mono fun e W' ⟨he, hb⟩ => ?_
  subst he
  exact ⟨_, rfl, law_post laidOut (by kernel_rfl) rfl (by kernel_rfl) Tryz.underlying4 (fun ds hd => by match ds, hd with | [_, _], _ => rfl) hW' hb⟩

theorem queryHalves_row : Rows.QueryHalvesSaid :=
  OpenClaim.holds_of_wide 6 Tryz.f6 rfl rfl rfl rfl rfl rfl rfl ⟨rfl, rfl, rfl, rfl, rfl⟩ rfl rfl rfl rfl rfl (by kernel_rfl) Tryz.func6 (by kernel_rfl)
    (of_decide_eq_true (by kernel_rfl)) (by unfold Func.isWrapper; first | (rw [if_pos (by decide +kernel)]; kernel_rfl) | (rw [if_neg (by decide +kernel)]; exact ⟨rfl, rfl⟩))
    (fun os started H enc _ => queryHalves_lifted os started H enc)

theorem queryHalves_holds : Rows.QueryHalvesCardSaid :=
  Claim7.holds_tied_plain_at .later [] Rows.queryHalvesCard.laidKinds true Rows.queryHalvesCard.stood.harness true
    queryHalves_row (fun _ h => by cases h) (by kernel_rfl) (fun _ h => by cases h) queryHalves_row_tie rfl ⟨rfl, rfl⟩ (by kernel_rfl) rfl
    (fun f fn hf hfn => by
      obtain rfl : f = 6 := Option.some.inj ((show Tryz.prog.funcNamed "paddock/paddocklaw09.QueryHalves" = some 6 by kernel_rfl).symm.trans hf) |>.symm
      obtain rfl : fn = Tryz.f6 := (Option.some.inj (Tryz.func6.symm.trans hfn)).symm
      exact ⟨by kernel_rfl, fun j t ht => by
        rw [Tryz.params6] at ht
        have hm : t ∈ [53, 3] := by
          have := Array.mem_of_getElem? ht
          simp at this ⊢
          omega
        have hall : ([53, 3].all fun u => !Tryz.prog.wantsStandIn u) = true := by kernel_rfl
        exact (show Tryz.prog.wantsStandIn t = false by simpa using List.all_eq_true.1 hall t hm)⟩)
    (by kernel_rfl)
#print axioms queryHalves_holds
end Go.Proofs.YtaehendpdfpibaaGreatDoor
