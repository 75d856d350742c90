import Derived.Test.YtahichjiphjapaaGreatDoorZ56
import Derived.Test.YtahichjiphjapaaGreatDoorZ2
import Derived.BigQuiet
import Derived.Test.YtahichjiphjapaaGreatDoorZ13

/-
  The walk of NearFirst.
-/
namespace Go.Proofs.YtahichjiphjapaaGreatDoor
set_option linter.unusedSimpArgs false
set_option linter.unusedVariables false
open Go.RowKit Go.Sort Go.Lib Go.Shelf

section
variable {eR eN eF : TypeId × Value}
set_option pp.deepTerms true in
set_option maxHeartbeats 4000000 in
set_option maxRecDepth 100000 in
theorem nearFirst_walk (l : List Bx4) (v : Value) (x y k : Int) (W : World) (hv : Sl encX W v l) (hE : Er3 W eR eN eF) :
    Calls Tryz.prog 8 #[v, .agg #[.int .i64 x, .int .i64 y], .int .i64 k] W fun e w' => e = .returned (.bool true) ∧ RowKit.Below W.heap.size W w' := by
  obtain ⟨w0, hw0⟩ : ∃ w0, w0 = W.alloc (.cells #[.int .i64 x, .int .i64 y] 24) := ⟨_, rfl⟩
  have hb0 : RowKit.Below W.heap.size W w0 := by rw [hw0]; exact Ba (Below.refl _ W) _
  have hk0 : w0.heap[W.heap.size]? = some (.cells #[.int .i64 x, .int .i64 y] 24 (0, 0)) := by rw [hw0]; exact heap_alloc_new W _
  have AL := Lib.hid (alive_any w0 (hE.below hb0))
  have FI := Lib.hid (fun w (hb : RowKit.Below w0.heap.size w0 w) => filled_call l v w (hv.below (Bt hb0 hb)) (hE.below (Bt hb0 hb)))
  have HE := Lib.hid hE
  have B0 := Lib.hid hb0
  have HW := Lib.hid hw0
  have K0 := Lib.hid hk0
  have hbl : W.heap.size < w0.heap.size := by rw [hw0]; simp
  obtain ⟨pb, hpb⟩ : ∃ pb, pb = W.heap.size := ⟨_, rfl⟩
  have HPB := Lib.hid hpb
  rw [← hpb] at hbl K0
  clear hb0 hk0 hw0 hE hv hpb
  obtain ⟨kk, hk70, hkk0⟩ := idx_any k 70 (by omega) (by omega)
  have hkk : wrap64 ((IntKind.u64.wrap k).tmod 70) = (kk : Int) := hkk0
  clear hkk0
  go_enter Tryz.func8, Tryz.ntmps8
  go_wp2_with fail
  rw [← HW.out, ← HPB.out]
  refine AL.out.mono ?_
  rintro e w1 ⟨rfl, hb1⟩
  have F1 := Lib.hid (FI.out w1 hb1)
  have B1 := Lib.hid (Bt B0.out hb1)
  have K1 := Lib.hid (blk_below K0.out hb1)
  clear hb1 AL FI K0 HW hbl
  go_wp2_with fail
  refine F1.out.mono ?_
  rintro e w2 ⟨⟨pt, vm, rfl, hR⟩, hb2⟩
  have B2 := Lib.hid (Bt B1.out hb2)
  have k2 := blk_below K1.out hb2
  clear hb2 F1 K1 B1
  cases hf : fillB l
  · clear hR hf
    go_wp2
    go_ret
    exact ⟨rfl, B2.out⟩
  obtain ⟨⟨M, hT⟩, -⟩ := hR hf
  obtain ⟨hn, -⟩ := fillB_iff.1 hf
  have ho := fl_once l l.length (by omega)
  have hL := fl_len l l.length
  generalize fl l l.length = B at *
  clear hR hf
  obtain ⟨d1, d2, _, _⟩ := two_cells k2
  have hpl := cell_lt d1
  have HT := Lib.hid hT
  have HB := Lib.hid (show B.length ≤ 100 by omega)
  have hkz : (0 : Int) ≤ (kk : Int) ∧ (kk : Int) < 70 := by omega
  cases hP : placeB (x, y)
  · have N1 := Lib.hid (nNearest_no x y (kk : Int) hT (by rw [hP]; rfl) (HE.out.below B2.out))
    have N2 := Lib.hid (fun w (hb : RowKit.Below w2.heap.size w2 w) => nNearest_no x y ((kk : Int) + 1) ((fr_tr pt _).below hT hb) (by rw [hP]; rfl) (HE.out.below (Bt B2.out hb)))
    have K2 := Lib.hid k2
    clear hT hP
    go_wp2_with fail
    refine N1.out.mono ?_
    rintro e w3 ⟨v3, rfl, _, hb3⟩
    obtain ⟨d1, d2, _, _⟩ := two_cells (blk_below K2.out hb3)
    have hpl := cell_lt d1
    have N3 := Lib.hid (N2.out w3 hb3)
    have B3 := Lib.hid (Bt B2.out hb3)
    clear N1 N2 hb3
    go_wp2_with fail
    refine N3.out.mono ?_
    rintro e w4 ⟨v4, rfl, _, hb4⟩
    have B4 := Lib.hid (Bt B3.out hb4)
    clear hb4 N3
    go_wp2
    go_ret
    exact ⟨rfl, B4.out⟩
  · have N1 := Lib.hid (nNearest_do x y (kk : Int) hT (by rw [hP]; simp) HB.out)
    have N2 := Lib.hid (fun w (hb : RowKit.Below w2.heap.size w2 w) => nNearest_do x y ((kk : Int) + 1) ((fr_tr pt _).below hT hb) (by rw [hP]; simp; omega) HB.out)
    have LT := Lib.hid (fun w (hb : RowKit.Below w2.heap.size w2 w) => lenT_call ((fr_tr pt _).below hT hb))
    have CL := Lib.hid (fun (vb : Value) (lb : List Hd) w (hb : RowKit.Below w2.heap.size w2 w) (h1 : Sl encH w vb lb) (h2 : lb.length ≤ 100) => nClosest_do x y vb lb h1 h2 ((fr_tr pt _).below hT hb) hP HB.out)
    have hnd := allN_nodup ho (x, y)
    have hlen := allN_len ho (x, y)
    have hff := find_first hnd kk
    unfold closeN at CL
    generalize allN B (x, y) = N at *
    rw [show ((kk : Int) + 1).toNat = kk + 1 by omega] at N2
    rw [show ((kk : Int)).toNat = kk by omega] at N1
    have K2 := Lib.hid k2
    have HFF := Lib.hid hff
    clear hT hP hnd ho hff
    go_wp2_with fail
    refine N1.out.mono ?_
    rintro e w3 ⟨v3, rfl, hs3, hb3⟩
    obtain ⟨d1, d2, _, _⟩ := two_cells (blk_below K2.out hb3)
    have hpl := cell_lt d1
    have N3 := Lib.hid (N2.out w3 hb3)
    have H3 := Lib.hid hb3
    have S3 := Lib.hid hs3
    clear N1 N2 hb3 hs3
    go_wp2_with fail
    refine N3.out.mono ?_
    rintro e w4 ⟨v4, rfl, hs4, hb4⟩
    obtain ⟨d1, d2, _, _⟩ := two_cells (blk_below K2.out (Bt H3.out hb4))
    have hpl := cell_lt d1
    have H4 := Lib.hid (Bt H3.out hb4)
    have S4 := Lib.hid hs4
    have S3b := Lib.hid (S3.out.below hb4)
    obtain ⟨p3, c3, rfl, a1, a2, a3⟩ := S3b.out
    obtain ⟨p4, c4, rfl, e1, e2, e3⟩ := hs4
    have L4 := Lib.hid (fun w (hb : RowKit.Below w4.heap.size w4 w) => LT.out w (Bt H4.out hb))
    rw [← hlen] at L4
    clear N3 hb4 LT
    have HC := Lib.hid (fun w (hb : RowKit.Below w4.heap.size w4 w) => CL.out (.slice p3 (N.take kk).length c3) (N.take kk) w (Bt H4.out hb) (S3b.out.below hb) (by simp; omega))
    rw [HFF.out] at HC
    by_cases hlt : kk < N.length
    · have hl3 : (N.take kk).length = kk := by simp; omega
      have hl4 : (N.take (kk + 1)).length = kk + 1 := by simp; omega
      obtain ⟨⟨c1, c2⟩, hcc⟩ : ∃ c, N[kk]? = some c := ⟨_, List.getElem?_eq_getElem hlt⟩
      simp only [hcc, Option.getD_some, Option.isSome_some, mH] at HC
      have HCC := Lib.hid hcc
      clear hcc
      rw [hl3] at HC
      rw [hl3, hl4]
      have HL3 := Lib.hid hl3
      have HL4 := Lib.hid hl4
      have hm1 : min (kk : Int) (N.length : Int) = kk := by omega
      have hm2 : min ((kk : Int) + 1) (N.length : Int) = (kk : Int) + 1 := by omega
      have hnz : (N.length : Int) ≤ 60 := by omega
      clear hl3 hl4 hL hlen hlt a1 a2 e1 e2 hn
      go_wp2_with fail
      refine (L4.out _ (Below.refl _ _)).mono ?_
      rintro e w5 ⟨rfl, hb5⟩
      have B5 := Lib.hid hb5
      have L5 := Lib.hid (L4.out _ hb5)
      clear hb5
      go_wp2_with fail
      refine L5.out.mono ?_
      rintro e w6 ⟨rfl, hb6⟩
      have B6 := Lib.hid (Bt B5.out hb6)
      obtain ⟨d1, d2, _, _⟩ := two_cells (blk_below K2.out (Bt H4.out B6.out))
      have hpl := cell_lt d1
      have C6 := Lib.hid (HC.out _ B6.out)
      clear hb6 L5 L4 HC
      go_wp2_with fail
      refine C6.out.mono ?_
      rintro e w7 ⟨rfl, hb7⟩
      have B7 := Lib.hid (Bt B6.out hb7)
      clear hb7 C6
      go_wp2_with fail
      obtain ⟨w8, hw8⟩ : ∃ w8, w8 = w7.alloc (.cells #[.int .i64 c1, .int .i64 c2] 42) := ⟨_, rfl⟩
      have b8 : RowKit.Below w7.heap.size w7 w8 := by rw [hw8]; exact Ba (Below.refl _ w7) _
      have hz8 : w8.heap[w7.heap.size]? = some (.cells #[.int .i64 c1, .int .i64 c2] 42 (0, 0)) := by rw [hw8]; exact heap_alloc_new w7 _
      have B8 := Lib.hid (Bt B7.out b8)
      rw [← hw8]
      obtain ⟨bz, hbz⟩ : ∃ bz, bz = w7.heap.size := ⟨_, rfl⟩
      rw [← hbz] at hz8 ⊢
      obtain ⟨z1, z2, _, _⟩ := two_cells hz8
      have hzl := cell_lt z1
      obtain ⟨q, cq, f1, f2, f3, f4⟩ := S4.out.below B8.out
      obtain ⟨rfl, rfl⟩ : p4 = q ∧ c4 = cq := by simpa using f1
      obtain ⟨g4, o4, rfl, hg4, hc4⟩ := f4 (by rw [HL4.out]; omega)
      obtain ⟨a1, a2⟩ := atH hc4 (i := kk) (by rw [HL4.out]; omega)
      have hel : (N.take (kk + 1))[kk]! = (c1, c2) := by
        rw [getElem!_def, List.getElem?_take]
        simp [HCC.out]
      rw [hel] at a1 a2
      have hs8 : Sl encH w8 (.slice (some ⟨g4, o4, none⟩) kk c4) (N.take kk) := by
        have := sl_take lenH (w := w8) kk (by rw [HL4.out]; omega) f2 f3 hg4 hc4
        rwa [List.take_take, show min kk (kk + 1) = kk by omega] at this
      have e1 := cell_grown (show (⟨bz, 0, none⟩ : Addr).block < w8.heap.size from hzl) z1
      have e2 := cell_grown (show (⟨bz, 1, none⟩ : Addr).block < w8.heap.size from hzl) z2
      have e3 := cell_grown (show (⟨g4, o4 + kk * 2, none⟩ : Addr).block < w8.heap.size from hg4) a1
      have e4 := cell_grown (show (⟨g4, o4 + kk * 2 + 1, none⟩ : Addr).block < w8.heap.size from hg4) a2
      have hbig := fun n os => ((by repeat (first | with_reducible exact Below.refl _ _ | with_reducible assumption | with_reducible apply Ba | with_reducible apply Bd | with_reducible apply Bn | with_reducible apply Bg | (with_reducible refine Bs ?_ (by first | (simp; done) | (simp; omega)) _) | (with_reducible refine Bt ?_ (by assumption)) | (with_reducible refine Bt ?_ (Gr.below (by assumption))))) : RowKit.Below w8.heap.size w8 (grow (w8.drewN n) os))
      have hc := fun n os => same_call (N.take kk) (N.take kk) _ _ (grow (w8.drewN n) os) ((S3b.out.below B8.out).below (hbig n os)) (hs8.below (hbig n os))
      rw [HL3.out] at hc
      simp only [decide_true] at hc
      have BALL := Lib.hid (Bt (Bt B2.out H4.out) B8.out)
      have hkc : kk ≤ c4 := by rw [HL4.out] at f2; omega
      have hkm : c4 ≤ 9223372036854775807 := by unfold maxLen at f3; omega
      have hk1 : decide ((kk : Int) < (kk : Int) + 1) = true := decide_eq_true (by omega)
      have hk2 : (kk : Int) < (kk : Int) + 1 := by omega
      have hk3 : kk < kk + 1 := by omega
      have eqh := fun W => eqH_run c1 c2 c1 c2 W
      simp only [decide_true] at eqh
      have gdh := gdH_run
      clear f2 f3 a1 a2 hs8 hel hbig hw8 hbz
      have mixed : Tryz.prog.follows .mixedOrders = true := by kernel_rfl
      go_quiet_grown (first | (go_at_call 15; go_loud (refine Calls.grown_of (hc _ _))))
      go_wp2
      go_ret
      exact ⟨by simp, Bt BALL.out (by repeat (first | with_reducible exact Below.refl _ _ | with_reducible assumption | with_reducible apply Ba | with_reducible apply Bd | with_reducible apply Bn | with_reducible apply Bg | (with_reducible refine Bs ?_ (by first | (simp; done) | (simp; omega)) _) | (with_reducible refine Bt ?_ (by assumption)) | (with_reducible refine Bt ?_ (Gr.below (by assumption)))))⟩
    · have hl3 : N.take kk = N := List.take_of_length_le (by omega)
      have hl4 : N.take (kk + 1) = N := List.take_of_length_le (by omega)
      simp only [show N[kk]? = none from List.getElem?_eq_none (by omega), Option.getD_none, Option.isSome_none, mH] at HC
      rw [hl3] at HC
      rw [hl3, hl4]
      have hm1 : min (kk : Int) (N.length : Int) = N.length := by omega
      have hm2 : min ((kk : Int) + 1) (N.length : Int) = N.length := by omega
      have hnz : (N.length : Int) ≤ 60 := by omega
      rw [hl3] at S3b a1
      rw [hl4] at S4 e1
      have hk1 : decide ((N.length : Int) < (N.length : Int)) = false := decide_eq_false (by omega)
      have hkc : N.length ≤ c4 := e1
      have hkm : c4 ≤ 9223372036854775807 := by unfold maxLen at e2; omega
      clear hl3 hl4 hL hlen hlt a1 a2 e1 e2 hn
      go_wp2_with fail
      refine (L4.out _ (Below.refl _ _)).mono ?_
      rintro e w5 ⟨rfl, hb5⟩
      have B5 := Lib.hid hb5
      have L5 := Lib.hid (L4.out _ hb5)
      clear hb5
      go_wp2_with fail
      refine L5.out.mono ?_
      rintro e w6 ⟨rfl, hb6⟩
      have B6 := Lib.hid (Bt B5.out hb6)
      obtain ⟨d1, d2, _, _⟩ := two_cells (blk_below K2.out (Bt H4.out B6.out))
      have hpl := cell_lt d1
      have C6 := Lib.hid (HC.out _ B6.out)
      clear hb6 L5 L4 HC
      go_wp2_with fail
      refine C6.out.mono ?_
      rintro e w7 ⟨rfl, hb7⟩
      have B7 := Lib.hid (Bt B6.out hb7)
      clear hb7 C6
      go_wp2_with fail
      obtain ⟨w8, hw8⟩ : ∃ w8, w8 = w7.alloc (.cells #[.int .i64 0, .int .i64 0] 42) := ⟨_, rfl⟩
      have b8 : RowKit.Below w7.heap.size w7 w8 := by rw [hw8]; exact Ba (Below.refl _ w7) _
      have B8 := Lib.hid (Bt B7.out b8)
      rw [← hw8]
      have SM := Lib.hid (fun w (hb : RowKit.Below w8.heap.size w8 w) => (same_call N N _ _ w ((S3b.out.below B8.out).below hb) ((S4.out.below B8.out).below hb)).mono (fun e w' h => (show e = .returned (.bool true) ∧ RowKit.Below w.heap.size w w' from ⟨by simpa using h.1, h.2.below⟩)))
      have BALL := Lib.hid (Bt (Bt B2.out H4.out) B8.out)
      clear hw8
      refine wp_region_held_drew (S := (fun w' => Below (w8).heap.size (w8) w' ∧ ∀ b_1 o, b_1 < (w8).heap.size → w'.cell? ⟨b_1, o, none⟩ = (w8).cell? ⟨b_1, o, none⟩)) (by kernel_rfl) (keep0 _) (fun hHeld => ?_)
      (refine wpAnyH_take (i := 0) (v := ?_) rfl (by kernel_rfl) (by kernel_rfl) (by kernel_rfl) (fun _ _ _ h => h) (Or.inl ⟨by rfl, ?rt⟩) (by assumption) ?_; case rt => (intro w hSw; (try dsimp only at hSw); go_simp; (try with_reducible rfl))); (try simp only [Act.put, List.getElem_toArray, List.getElem_cons_succ, List.getElem_cons_zero, List.setIfInBounds_toArray, List.set_cons_zero, List.set_cons_succ])
      (refine wpAnyH_take (i := 1) (v := ?_) rfl (by kernel_rfl) (by kernel_rfl) (by kernel_rfl) (fun _ _ _ h => h) (Or.inl ⟨by rfl, ?rt⟩) (by assumption) ?_; case rt => (intro w hSw; (try dsimp only at hSw); go_simp; (try with_reducible rfl))); (try simp only [Act.put, List.getElem_toArray, List.getElem_cons_succ, List.getElem_cons_zero, List.setIfInBounds_toArray, List.set_cons_zero, List.set_cons_succ])
      (refine wpAnyH_take (i := 2) (v := ?_) rfl (by kernel_rfl) (by kernel_rfl) (by kernel_rfl) (fun _ _ _ h => h) (Or.inl ⟨by rfl, ?rt⟩) (by assumption) ?_; case rt => (intro w hSw; (try dsimp only at hSw); go_simp; (try with_reducible rfl))); (try simp only [Act.put, List.getElem_toArray, List.getElem_cons_succ, List.getElem_cons_zero, List.setIfInBounds_toArray, List.set_cons_zero, List.set_cons_succ])
      (refine wpAnyH_take (i := 3) (v := ?_) rfl (by kernel_rfl) (by kernel_rfl) (by kernel_rfl) (fun _ _ _ h => h) (Or.inl ⟨by rfl, ?rt⟩) (by assumption) ?_; case rt => (intro w hSw; (try dsimp only at hSw); go_simp; (try with_reducible rfl))); (try simp only [Act.put, List.getElem_toArray, List.getElem_cons_succ, List.getElem_cons_zero, List.setIfInBounds_toArray, List.set_cons_zero, List.set_cons_succ])
      (refine wpAnyH_take (i := 4) (v := ?_) rfl (by kernel_rfl) (by kernel_rfl) (by kernel_rfl) (fun _ _ _ h => h) (Or.inl ⟨by rfl, ?rt⟩) (by assumption) ?_; case rt => (intro w hSw; (try dsimp only at hSw); go_simp; (try with_reducible rfl))); (try simp only [Act.put, List.getElem_toArray, List.getElem_cons_succ, List.getElem_cons_zero, List.setIfInBounds_toArray, List.set_cons_zero, List.set_cons_succ])
      (refine wpAnyH_take (i := 5) (v := ?_) rfl (by kernel_rfl) (by kernel_rfl) (by kernel_rfl) (fun _ _ _ h => h) (Or.inl ⟨by rfl, ?rt⟩) (by assumption) ?_; case rt => (intro w hSw; (try dsimp only at hSw); go_simp; (try with_reducible rfl))); (try simp only [Act.put, List.getElem_toArray, List.getElem_cons_succ, List.getElem_cons_zero, List.setIfInBounds_toArray, List.set_cons_zero, List.set_cons_succ])
      (refine wpAnyH_take (i := 6) (v := ?_) rfl (by kernel_rfl) (by kernel_rfl) (by kernel_rfl) (fun _ _ _ h => h) (Or.inl ⟨by rfl, ?rt⟩) (by assumption) ?_; case rt => (intro w hSw; (try dsimp only at hSw); go_simp; (try with_reducible rfl))); (try simp only [Act.put, List.getElem_toArray, List.getElem_cons_succ, List.getElem_cons_zero, List.setIfInBounds_toArray, List.set_cons_zero, List.set_cons_succ])
      (refine wpAnyH_take (i := 7) (v := ?_) rfl (by kernel_rfl) (by kernel_rfl) (by kernel_rfl) (fun _ _ _ h => h) (Or.inl ⟨by rfl, ?rt⟩) (by assumption) ?_; case rt => (intro w hSw; (try dsimp only at hSw); go_simp; (try with_reducible rfl))); (try simp only [Act.put, List.getElem_toArray, List.getElem_cons_succ, List.getElem_cons_zero, List.setIfInBounds_toArray, List.set_cons_zero, List.set_cons_succ])
      (refine wpAnyH_ready (rs := [8]) (by kernel_rfl) (by simp) ?_; refine AllReadyH.cons rfl (fun K hK => ?_) AllReadyH.nil; go_simp; refine (SM.out _ hHeld.1).mono ?_; rintro e w1 ⟨rfl, hb1⟩; refine hK.out _ _ (keepB (by assumption) hb1) (fun hHeld => ?_); clear hK K); (try simp only [Act.put, List.getElem_toArray, List.getElem_cons_succ, List.getElem_cons_zero, List.setIfInBounds_toArray, List.set_cons_zero, List.set_cons_succ])
      (refine wpAnyH_take (i := 9) (v := ?_) rfl (by kernel_rfl) (by kernel_rfl) (by kernel_rfl) (fun _ _ _ h => h) (Or.inl ⟨by rfl, ?rt⟩) (by assumption) ?_; case rt => (intro w hSw; (try dsimp only at hSw); go_simp; (try with_reducible rfl))); (try simp only [Act.put, List.getElem_toArray, List.getElem_cons_succ, List.getElem_cons_zero, List.setIfInBounds_toArray, List.set_cons_zero, List.set_cons_succ])
      (refine wpAnyH_take (i := 10) (v := ?_) rfl (by kernel_rfl) (by kernel_rfl) (by kernel_rfl) (fun _ _ _ h => h) (Or.inl ⟨by rfl, ?rt⟩) (by assumption) ?_; case rt => (intro w hSw; (try dsimp only at hSw); go_simp; (try with_reducible rfl))); (try simp only [Act.put, List.getElem_toArray, List.getElem_cons_succ, List.getElem_cons_zero, List.setIfInBounds_toArray, List.set_cons_zero, List.set_cons_succ])
      (refine wpAnyH_take (i := 11) (v := ?_) rfl (by kernel_rfl) (by kernel_rfl) (by kernel_rfl) (fun _ _ _ h => h) (Or.inl ⟨by rfl, ?rt⟩) (by assumption) ?_; case rt => (intro w hSw; (try dsimp only at hSw); go_simp; (try with_reducible rfl))); (try simp only [Act.put, List.getElem_toArray, List.getElem_cons_succ, List.getElem_cons_zero, List.setIfInBounds_toArray, List.set_cons_zero, List.set_cons_succ])
      (refine wpAnyH_take (i := 12) (v := ?_) rfl (by kernel_rfl) (by kernel_rfl) (by kernel_rfl) (fun _ _ _ h => h) (Or.inl ⟨by rfl, ?rt⟩) (by assumption) ?_; case rt => (intro w hSw; (try dsimp only at hSw); go_simp; (try with_reducible rfl))); (try simp only [Act.put, List.getElem_toArray, List.getElem_cons_succ, List.getElem_cons_zero, List.setIfInBounds_toArray, List.set_cons_zero, List.set_cons_succ])
      (refine wpAnyH_take (i := 14) (v := ?_) rfl (by kernel_rfl) (by kernel_rfl) (by kernel_rfl) (fun _ _ _ h => h) (Or.inl ⟨by rfl, ?rt⟩) (by assumption) ?_; case rt => (intro w hSw; (try dsimp only at hSw); go_simp; (try with_reducible rfl))); (try simp only [Act.put, List.getElem_toArray, List.getElem_cons_succ, List.getElem_cons_zero, List.setIfInBounds_toArray, List.set_cons_zero, List.set_cons_succ])
      (refine wpAnyH_take (i := 13) (v := ?_) rfl (by kernel_rfl) (by kernel_rfl) (by kernel_rfl) (fun _ _ _ h => h) (Or.inl ⟨by rfl, ?rt⟩) (by assumption) ?_; case rt => (intro w hSw; (try dsimp only at hSw); go_simp; (try with_reducible rfl))); (try simp only [Act.put, List.getElem_toArray, List.getElem_cons_succ, List.getElem_cons_zero, List.setIfInBounds_toArray, List.set_cons_zero, List.set_cons_succ])
      (refine wpAnyH_take (i := 15) (v := ?_) rfl (by kernel_rfl) (by kernel_rfl) (by kernel_rfl) (fun _ _ _ h => h) (Or.inl ⟨by rfl, ?rt⟩) (by assumption) ?_; case rt => (intro w hSw; (try dsimp only at hSw); go_simp; (try with_reducible rfl))); (try simp only [Act.put, List.getElem_toArray, List.getElem_cons_succ, List.getElem_cons_zero, List.setIfInBounds_toArray, List.set_cons_zero, List.set_cons_succ])
      (refine wpAnyH_take (i := 16) (v := ?_) rfl (by kernel_rfl) (by kernel_rfl) (by kernel_rfl) (fun _ _ _ h => h) (Or.inl ⟨by rfl, ?rt⟩) (by assumption) ?_; case rt => (intro w hSw; (try dsimp only at hSw); go_simp; (try with_reducible rfl))); (try simp only [Act.put, List.getElem_toArray, List.getElem_cons_succ, List.getElem_cons_zero, List.setIfInBounds_toArray, List.set_cons_zero, List.set_cons_succ])
      (refine wpAnyH_take (i := 17) (v := ?_) rfl (by kernel_rfl) (by kernel_rfl) (by kernel_rfl) (fun _ _ _ h => h) (Or.inl ⟨by rfl, ?rt⟩) (by assumption) ?_; case rt => (intro w hSw; (try dsimp only at hSw); go_simp; (try with_reducible rfl))); (try simp only [Act.put, List.getElem_toArray, List.getElem_cons_succ, List.getElem_cons_zero, List.setIfInBounds_toArray, List.set_cons_zero, List.set_cons_succ])
      (refine wpAnyH_take (i := 18) (v := ?_) rfl (by kernel_rfl) (by kernel_rfl) (by kernel_rfl) (fun _ _ _ h => h) (Or.inl ⟨by rfl, ?rt⟩) (by assumption) ?_; case rt => (intro w hSw; (try dsimp only at hSw); go_simp; (try with_reducible rfl))); (try simp only [Act.put, List.getElem_toArray, List.getElem_cons_succ, List.getElem_cons_zero, List.setIfInBounds_toArray, List.set_cons_zero, List.set_cons_succ])
      (refine wpAnyH_take (i := 19) (v := ?_) rfl (by kernel_rfl) (by kernel_rfl) (by kernel_rfl) (fun _ _ _ h => h) (Or.inl ⟨by rfl, ?rt⟩) (by assumption) ?_; case rt => (intro w hSw; (try dsimp only at hSw); go_simp; (try with_reducible rfl))); (try simp only [Act.put, List.getElem_toArray, List.getElem_cons_succ, List.getElem_cons_zero, List.setIfInBounds_toArray, List.set_cons_zero, List.set_cons_succ])
      (refine wpAnyH_take (i := 20) (v := ?_) rfl (by kernel_rfl) (by kernel_rfl) (by kernel_rfl) (fun _ _ _ h => h) (Or.inl ⟨by rfl, ?rt⟩) (by assumption) ?_; case rt => (intro w hSw; (try dsimp only at hSw); go_simp; (try with_reducible rfl))); (try simp only [Act.put, List.getElem_toArray, List.getElem_cons_succ, List.getElem_cons_zero, List.setIfInBounds_toArray, List.set_cons_zero, List.set_cons_succ])
      (refine wpAnyH_take (i := 21) (v := ?_) rfl (by kernel_rfl) (by kernel_rfl) (by kernel_rfl) (fun _ _ _ h => h) (Or.inl ⟨by rfl, ?rt⟩) (by assumption) ?_; case rt => (intro w hSw; (try dsimp only at hSw); go_simp; (try with_reducible rfl))); (try simp only [Act.put, List.getElem_toArray, List.getElem_cons_succ, List.getElem_cons_zero, List.setIfInBounds_toArray, List.set_cons_zero, List.set_cons_succ])
      (refine wpAnyH_take (i := 22) (v := ?_) rfl (by kernel_rfl) (by kernel_rfl) (by kernel_rfl) (fun _ _ _ h => h) (Or.inl ⟨by rfl, ?rt⟩) (by assumption) ?_; case rt => (intro w hSw; (try dsimp only at hSw); go_simp; (try with_reducible rfl))); (try simp only [Act.put, List.getElem_toArray, List.getElem_cons_succ, List.getElem_cons_zero, List.setIfInBounds_toArray, List.set_cons_zero, List.set_cons_succ])
      refine wpAnyH_take (i := 23) (v := undef) rfl (by kernel_rfl) (by kernel_rfl) (by kernel_rfl) (fun _ _ _ h => h) (Or.inr ⟨by rfl, rfl⟩) (by assumption) ?_; (try simp only [Act.put, List.getElem_toArray, List.getElem_cons_succ, List.getElem_cons_zero, List.setIfInBounds_toArray, List.set_cons_zero, List.set_cons_succ])
      refine wpAnyH_take (i := 24) (v := undef) rfl (by kernel_rfl) (by kernel_rfl) (by kernel_rfl) (fun _ _ _ h => h) (Or.inr ⟨by rfl, rfl⟩) (by assumption) ?_; (try simp only [Act.put, List.getElem_toArray, List.getElem_cons_succ, List.getElem_cons_zero, List.setIfInBounds_toArray, List.set_cons_zero, List.set_cons_succ])
      refine wpAnyH_take (i := 25) (v := undef) rfl (by kernel_rfl) (by kernel_rfl) (by kernel_rfl) (fun _ _ _ h => h) (Or.inr ⟨by rfl, rfl⟩) (by assumption) ?_; (try simp only [Act.put, List.getElem_toArray, List.getElem_cons_succ, List.getElem_cons_zero, List.setIfInBounds_toArray, List.set_cons_zero, List.set_cons_succ])
      refine wpAnyH_take (i := 26) (v := undef) rfl (by kernel_rfl) (by kernel_rfl) (by kernel_rfl) (fun _ _ _ h => h) (Or.inr ⟨by rfl, rfl⟩) (by assumption) ?_; (try simp only [Act.put, List.getElem_toArray, List.getElem_cons_succ, List.getElem_cons_zero, List.setIfInBounds_toArray, List.set_cons_zero, List.set_cons_succ])
      refine wpAnyH_take (i := 27) (v := undef) rfl (by kernel_rfl) (by kernel_rfl) (by kernel_rfl) (fun _ _ _ h => h) (Or.inr ⟨by rfl, rfl⟩) (by assumption) ?_; (try simp only [Act.put, List.getElem_toArray, List.getElem_cons_succ, List.getElem_cons_zero, List.setIfInBounds_toArray, List.set_cons_zero, List.set_cons_succ])
      refine wpAnyH_take (i := 28) (v := undef) rfl (by kernel_rfl) (by kernel_rfl) (by kernel_rfl) (fun _ _ _ h => h) (Or.inr ⟨by rfl, rfl⟩) (by assumption) ?_; (try simp only [Act.put, List.getElem_toArray, List.getElem_cons_succ, List.getElem_cons_zero, List.setIfInBounds_toArray, List.set_cons_zero, List.set_cons_succ])
      refine wpAnyH_take (i := 29) (v := undef) rfl (by kernel_rfl) (by kernel_rfl) (by kernel_rfl) (fun _ _ _ h => h) (Or.inr ⟨by rfl, rfl⟩) (by assumption) ?_; (try simp only [Act.put, List.getElem_toArray, List.getElem_cons_succ, List.getElem_cons_zero, List.setIfInBounds_toArray, List.set_cons_zero, List.set_cons_succ])
      (refine wpAnyH_take (i := 30) (v := ?_) rfl (by kernel_rfl) (by kernel_rfl) (by kernel_rfl) (fun _ _ _ h => h) (Or.inl ⟨by rfl, ?rt⟩) (by assumption) ?_; case rt => (intro w hSw; (try dsimp only at hSw); go_simp; (try with_reducible rfl))); (try simp only [Act.put, List.getElem_toArray, List.getElem_cons_succ, List.getElem_cons_zero, List.setIfInBounds_toArray, List.set_cons_zero, List.set_cons_succ])
      (refine wpAnyH_take (i := 31) (v := ?_) rfl (by kernel_rfl) (by kernel_rfl) (by kernel_rfl) (fun _ _ _ h => h) (Or.inl ⟨by rfl, ?rt⟩) (by assumption) ?_; case rt => (intro w hSw; (try dsimp only at hSw); go_simp; (try with_reducible rfl))); (try simp only [Act.put, List.getElem_toArray, List.getElem_cons_succ, List.getElem_cons_zero, List.setIfInBounds_toArray, List.set_cons_zero, List.set_cons_succ])
      (refine wpAnyH_take (i := 32) (v := ?_) rfl (by kernel_rfl) (by kernel_rfl) (by kernel_rfl) (fun _ _ _ h => h) (Or.inl ⟨by rfl, ?rt⟩) (by assumption) ?_; case rt => (intro w hSw; (try dsimp only at hSw); go_simp; (try with_reducible rfl))); (try simp only [Act.put, List.getElem_toArray, List.getElem_cons_succ, List.getElem_cons_zero, List.setIfInBounds_toArray, List.set_cons_zero, List.set_cons_succ])
      refine wpAnyH_done (by kernel_rfl) ?_ _
      have HF1 := Lib.hid (Bt BALL.out hHeld.1)
      clear hHeld
      go_wp2
      go_ret
      exact ⟨by simp, HF1.out⟩
end
end Go.Proofs.YtahichjiphjapaaGreatDoor

/-
  Whatever boxes, point and number it is given, NearFirst answers true and leaves its arguments as they were. Conditions: the errors' variables that it names read as the program's text lays them (the card ties them to that text).
-/
namespace Go.Proofs.YtahichjiphjapaaGreatDoor
set_option linter.unusedSimpArgs false
set_option linter.unusedVariables false
open Go.ChangeShapes Go.WideShapes Go.ChangeAt Go.RowKit Go.Joins

set_option maxRecDepth 100000 in
theorem nearFirst_lifted (os : Os) (started : os.Started) (H : Type) (enc : TypeId × Value → H) :
    ReturnsInHanded {} Tryz.checked os 8 .any (fun w args => (Rows.nearFirstSpec.pre enc Tryz.prog Tryz.f8 [] false w args ∧ laidMetH Tryz.prog Rows.nearFirstRow.laid w) ∧ sizedMet enc Tryz.prog Tryz.f8 (OpenSpec.ofChange Rows.nearFirstSpec) false w args)
      (Rows.nearFirstSpec.post enc Tryz.prog Tryz.f8 false true false false) := by
  refine returnsInHanded_of_change_and (C := Tryz.checked) (X := fun w _ => laidMetH Tryz.prog Rows.nearFirstRow.laid w) (fun _ _ _ hh h => h.of_heap hh) own started (by kernel_rfl) Tryz.func8
    (ChangeSpec.witness_shaped (enc := enc) (C := Tryz.checked) (os := os) (X := fun w _ => laidMetH Tryz.prog Rows.nearFirstRow.laid w) false (World.doorLaid Tryz.prog 199 os) #[.slice none 0 0, .agg #[.int .i64 0, .int .i64 0], .int .i64 0] 8 rfl (World.shaped_of_RefB (by kernel_rfl) (by kernel_rfl)) (by kernel_rfl) (by kernel_rfl) (by kernel_rfl) (laidMetH_of_parts3 (fuel := 8) (laidMet_of_run' 8 (by kernel_rfl) (by kernel_rfl)) (by kernel_rfl) (by kernel_rfl))) ?_
  intro W base args ds gs before hval0 hW _ _ hL _
  have hval : ∀ (j : Nat) t v, Tryz.f8.params[j]? = some t → args[j]? = some v → Value.okWide Tryz.prog W .any base t v := hval0
  have hW' := hW
  obtain ⟨p, q, hA0, hV, rfl, hfz, hnd⟩ := hW
  have hA : DataW.TrodAll enc Tryz.prog W 0 (fun _ => true) true Tryz.f8.params.toList args.toList ds p := hA0
  rw [Tryz.params8] at hA hval
  obtain ⟨v0, vs0, d0, ds0, p0, q0, hargs, rfl, rfl, h0, r0⟩ := trodAll_cons hA
  obtain ⟨v1, vs1, d1, ds1, p1, q1, rfl, rfl, rfl, h1, r1⟩ := trodAll_cons r0
  obtain ⟨v2, vs2, d2, ds2, p2, q2, rfl, rfl, rfl, h2, r2⟩ := trodAll_cons r1
  obtain ⟨rfl, rfl, rfl⟩ := trodAll_nil r2
  obtain rfl : args = #[v0, v1, v2] := by cases args; simp_all
  obtain ⟨l0, hl0⟩ := open_boxes (hval 0 22 v0 rfl rfl) h0
  obtain ⟨a1, b1, rfl⟩ := open_pt (hval 1 24 v1 rfl rfl) h1
  obtain ⟨x2, rfl, rfl, rfl, w2⟩ := open_int Tryz.underlying3 (hval 2 3 v2 rfl rfl) h2
  clear hA0 hval0
  have hL' : laidMet Tryz.prog Rows.nearFirstRow.laid W := by
    have h := hL
    rw [MakeChecks.laidMetH_plain _ _ _ (by kernel_rfl)] at h
    exact h
  obtain ⟨aR, hR⟩ := sent_range hL' (.head _)
  obtain ⟨aN, hN⟩ := sent_none hL' (.tail _ (.head _))
  obtain ⟨aF, hF⟩ := sent_form hL' (.tail _ (.tail _ (.head _)))
  refine (nearFirst_walk l0 v0 a1 b1 x2 W hl0 (Er3.three hR hN hF)).mono fun e W' ⟨he, hb⟩ => ?_
  subst he
  exact ⟨_, rfl, law_post laidOut (by kernel_rfl) rfl (by kernel_rfl) Tryz.underlying4 (fun ds hd => by match ds, hd with | [_, _, _], _ => rfl) hW' hb⟩

theorem nearFirst_row : Rows.NearFirstSaid :=
  OpenClaim.holds_of_wide 8 Tryz.f8 rfl rfl rfl rfl rfl rfl rfl ⟨rfl, rfl, rfl, rfl, rfl⟩ rfl rfl rfl rfl rfl (by kernel_rfl) Tryz.func8 (by kernel_rfl)
    (of_decide_eq_true (by kernel_rfl)) (by unfold Func.isWrapper; first | (rw [if_pos (by decide +kernel)]; kernel_rfl) | (rw [if_neg (by decide +kernel)]; exact ⟨rfl, rfl⟩))
    (fun os started H enc _ => nearFirst_lifted os started H enc)

theorem nearFirst_holds : Rows.NearFirstCardSaid :=
  Claim7.holds_tied_plain_at .later [] Rows.nearFirstCard.laidKinds true Rows.nearFirstCard.stood.harness true
    nearFirst_row (fun _ h => by cases h) (by kernel_rfl) (fun _ h => by cases h) nearFirst_row_tie rfl ⟨rfl, rfl⟩ (by kernel_rfl) rfl
    (fun f fn hf hfn => by
      obtain rfl : f = 8 := Option.some.inj ((show Tryz.prog.funcNamed "paddock/paddocklaw13.NearFirst" = some 8 by kernel_rfl).symm.trans hf) |>.symm
      obtain rfl : fn = Tryz.f8 := (Option.some.inj (Tryz.func8.symm.trans hfn)).symm
      exact ⟨by kernel_rfl, fun j t ht => by
        rw [Tryz.params8] at ht
        have hm : t ∈ [22, 24, 3] := by
          have := Array.mem_of_getElem? ht
          simp at this ⊢
          first | omega | (rcases this with h | h | h <;> simp [h])
        have hall : ([22, 24, 3].all fun u => !Tryz.prog.wantsStandIn u) = true := by kernel_rfl
        exact (show Tryz.prog.wantsStandIn t = false by simpa using List.all_eq_true.1 hall t hm)⟩)
    (by kernel_rfl)
#print axioms nearFirst_holds
end Go.Proofs.YtahichjiphjapaaGreatDoor
