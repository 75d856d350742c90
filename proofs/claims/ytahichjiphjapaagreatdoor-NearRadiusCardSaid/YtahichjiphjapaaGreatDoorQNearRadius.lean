import Derived.Test.YtahichjiphjapaaGreatDoorZ56
import Derived.Test.YtahichjiphjapaaGreatDoorZ57
import Derived.Test.YtahichjiphjapaaGreatDoorZ2
import Derived.Test.YtahichjiphjapaaGreatDoorZ24
import Derived.Test.YtahichjiphjapaaGreatDoorZ13

/-
  The walk of NearRadius.
-/
namespace Go.Proofs.YtahichjiphjapaaGreatDoor
set_option linter.unusedSimpArgs false
set_option linter.unusedVariables false
open Go.RowKit Go.Sort Go.Lib Go.Shelf

section
set_option maxHeartbeats 4000000 in
set_option maxRecDepth 100000 in
theorem nearRadius_walk (l : List Bx4) (v : Value) (x y : Int) (r : Int) (W : World) (hv : Sl encX W v l) {A : Nat → Addr} (hE : Errs W A) :
    Calls Tryz.prog 3 #[v, .agg #[.int .i64 x, .int .i64 y], .int .i64 r] W fun e w' => e = .returned (.bool true) ∧ RowKit.Below W.heap.size W w' := by
  obtain ⟨w0, hw0⟩ : ∃ w0, w0 = W.alloc (.cells #[.int .i64 x, .int .i64 y] 24) := ⟨_, rfl⟩
  have hb0 : RowKit.Below W.heap.size W w0 := by rw [hw0]; exact Ba (Below.refl _ W) _
  have hk0 : w0.heap[W.heap.size]? = some (.cells #[.int .i64 x, .int .i64 y] 24 (0, 0)) := by rw [hw0]; exact heap_alloc_new W _
  have AL := Lib.hid (alive_any w0 ((Er3.of hE).below hb0))
  have FI := Lib.hid (fun w (hb : RowKit.Below w0.heap.size w0 w) => filled_call l v w (hv.below (Bt hb0 hb)) ((Er3.of hE).below (Bt hb0 hb)))
  have HE := Lib.hid hE
  have B0 := Lib.hid hb0
  have HW := Lib.hid hw0
  have K0 := Lib.hid hk0
  have hbl : W.heap.size < w0.heap.size := by rw [hw0]; simp
  obtain ⟨pb, hpb⟩ : ∃ pb, pb = W.heap.size := ⟨_, rfl⟩
  have HPB := Lib.hid hpb
  rw [← hpb] at hbl K0
  clear hb0 hk0 hw0 hE hv hpb
  go_enter Tryz.func3, Tryz.ntmps3
  go_wp2_with fail
  rw [← HW.out, ← HPB.out]
  refine AL.out.mono ?_
  rintro e w1 ⟨rfl, hb1⟩
  have F1 := Lib.hid (FI.out w1 hb1)
  have B1 := Lib.hid (Bt B0.out hb1)
  have K1 := Lib.hid (blk_below K0.out hb1)
  clear hb1 AL FI K0 HW hbl
  go_wp2_with fail
  refine F1.out.mono ?_
  rintro e w2 ⟨⟨pt, vm, rfl, hR⟩, hb2⟩
  have B2 := Lib.hid (Bt B1.out hb2)
  have k2 := blk_below K1.out hb2
  clear hb2 F1 K1 B1
  cases hf : fillB l
  · clear hR hf
    go_wp2
    go_ret
    exact ⟨rfl, B2.out⟩
  obtain ⟨⟨M, hT⟩, hsB⟩ := hR hf
  obtain ⟨hn, -⟩ := fillB_iff.1 hf
  have ho := fl_once l l.length (by omega)
  have hL := fl_len l l.length
  have hok := hT.okB
  generalize fl l l.length = B at *
  clear hR hf
  obtain ⟨d1, d2, _, _⟩ := two_cells k2
  have hpl := cell_lt d1
  have HB := Lib.hid (show B.length ≤ 100 by omega)
  have K2 := Lib.hid k2
  have PL := Lib.hid (fun w => rplace_call x y w)
  cases hall : placeB (x, y) && okRad r
  · have N1 := Lib.hid (nRadius_no x y r hT hall (Er3.of (HE.out.below B2.out)))
    clear hT hok ho hL hsB hn
    cases hP : placeB (x, y)
    · rw [hP] at PL
      clear hall hP
      go_wp2_with fail
      refine N1.out.mono ?_
      rintro e w3 ⟨v3, rfl, hs3, hb3⟩
      obtain ⟨p3, c3, rfl, _, _, _⟩ := hs3
      obtain ⟨d1, d2, _, _⟩ := two_cells (blk_below K2.out hb3)
      have hpl := cell_lt d1
      have B3 := Lib.hid (Bt B2.out hb3)
      clear N1 hb3
      go_wp2_with fail
      refine (PL.out _).mono ?_
      rintro e w4 ⟨rfl, hb4⟩
      have B4 := Lib.hid (Bt B3.out hb4)
      have NR := Lib.hid (num_range (HE.out.below B4.out))
      clear hb4 PL
      go_wp2_with fail
      refine NR.out.mono ?_
      rintro e w5 ⟨rfl, hb5⟩
      have B5 := Lib.hid (Bt B4.out hb5)
      clear hb5 NR
      go_wp2
      go_ret
      exact ⟨by simp, B5.out⟩
    · rw [hP] at PL
      have hr : okRad r = false := by simpa [hP] using hall
      unfold okRad at hr
      by_cases h1 : r < 0
      · clear hall hP hr
        go_wp2_with fail
        refine N1.out.mono ?_
        rintro e w3 ⟨v3, rfl, hs3, hb3⟩
        obtain ⟨p3, c3, rfl, _, _, _⟩ := hs3
        obtain ⟨d1, d2, _, _⟩ := two_cells (blk_below K2.out hb3)
        have hpl := cell_lt d1
        have B3 := Lib.hid (Bt B2.out hb3)
        clear N1 hb3
        go_wp2_with fail
        refine (PL.out _).mono ?_
        rintro e w4 ⟨rfl, hb4⟩
        have B4 := Lib.hid (Bt B3.out hb4)
        have NR := Lib.hid (num_range (HE.out.below B4.out))
        clear hb4 PL
        go_wp2_with fail
        refine NR.out.mono ?_
        rintro e w5 ⟨rfl, hb5⟩
        have B5 := Lib.hid (Bt B4.out hb5)
        clear hb5 NR
        go_wp2
        go_ret
        exact ⟨by simp, B5.out⟩
      · have h2 : r > 4194304 := by simp at hr; omega
        clear hall hP hr
        go_wp2_with fail
        refine N1.out.mono ?_
        rintro e w3 ⟨v3, rfl, hs3, hb3⟩
        obtain ⟨p3, c3, rfl, _, _, _⟩ := hs3
        obtain ⟨d1, d2, _, _⟩ := two_cells (blk_below K2.out hb3)
        have hpl := cell_lt d1
        have B3 := Lib.hid (Bt B2.out hb3)
        clear N1 hb3
        go_wp2_with fail
        refine (PL.out _).mono ?_
        rintro e w4 ⟨rfl, hb4⟩
        have B4 := Lib.hid (Bt B3.out hb4)
        have NR := Lib.hid (num_range (HE.out.below B4.out))
        clear hb4 PL
        go_wp2_with fail
        refine NR.out.mono ?_
        rintro e w5 ⟨rfl, hb5⟩
        have B5 := Lib.hid (Bt B4.out hb5)
        clear hb5 NR
        go_wp2
        go_ret
        exact ⟨by simp, B5.out⟩
  · obtain ⟨hP, hr⟩ := Bool.and_eq_true_iff.1 hall
    simp only [okRad, Bool.and_eq_true, decide_eq_true_eq] at hr
    have N1 := Lib.hid (nRadius_do x y r hT hall HB.out)
    have RR := Lib.hid (fun w (hb : RowKit.Below w2.heap.size w2 w) => rRadius_call B vm x y r w (hsB.below hb) HB.out hok hP hr.1 hr.2)
    have h1 : ¬ r < 0 := by omega
    have h2 : ¬ r > 4194304 := by omega
    rw [hP] at PL
    generalize radL B (x, y) r = N at *
    clear hT hok ho hL hsB hn hall hP hr
    go_wp2_with fail
    refine N1.out.mono ?_
    rintro e w3 ⟨v3, rfl, hs3, hb3⟩
    have S3 := Lib.hid hs3
    obtain ⟨d1, d2, _, _⟩ := two_cells (blk_below K2.out hb3)
    have hpl := cell_lt d1
    have B3 := Lib.hid hb3
    clear N1 hb3 hs3
    go_wp2_with fail
    refine (PL.out _).mono ?_
    rintro e w4 ⟨rfl, hb4⟩
    have B4 := Lib.hid (Bt B3.out hb4)
    obtain ⟨d1, d2, _, _⟩ := two_cells (blk_below K2.out B4.out)
    have hpl := cell_lt d1
    have S4 := Lib.hid (S3.out.below hb4)
    have R4 := Lib.hid (RR.out w4 B4.out)
    clear hb4 PL RR
    go_wp2_with fail
    refine R4.out.mono ?_
    rintro e w5 ⟨v5, rfl, ho5, hb5⟩
    have B5 := Lib.hid (Bt B4.out hb5)
    have SM := Lib.hid (same_call N N v3 v5 w5 (S4.out.below hb5) (row_sl lenH ho5 rfl))
    rw [decide_eq_true rfl] at SM
    clear hb5 ho5 R4
    go_wp2_with fail
    refine SM.out.mono ?_
    rintro e w6 ⟨rfl, hg6⟩
    have B6 := Lib.hid (Bt B2.out (Bt B5.out hg6.below))
    clear hg6 SM
    go_wp2
    go_ret
    exact ⟨by simp, B6.out⟩
end
end Go.Proofs.YtahichjiphjapaaGreatDoor

/-
  Whatever boxes, point and radius it is given, NearRadius answers true and leaves its arguments as they were. Conditions: the errors' variables that it names read as the program's text lays them (the card ties them to that text).
-/
namespace Go.Proofs.YtahichjiphjapaaGreatDoor
set_option linter.unusedSimpArgs false
set_option linter.unusedVariables false
open Go.ChangeShapes Go.WideShapes Go.ChangeAt Go.RowKit Go.Joins

set_option maxRecDepth 100000 in
theorem nearRadius_lifted (os : Os) (started : os.Started) (H : Type) (enc : TypeId × Value → H) :
    ReturnsInHanded {} Tryz.checked os 3 .any (fun w args => (Rows.nearRadiusSpec.pre enc Tryz.prog Tryz.f3 [] false w args ∧ laidMetH Tryz.prog Rows.nearRadiusRow.laid w) ∧ sizedMet enc Tryz.prog Tryz.f3 (OpenSpec.ofChange Rows.nearRadiusSpec) false w args)
      (Rows.nearRadiusSpec.post enc Tryz.prog Tryz.f3 false true false false) := by
  refine returnsInHanded_of_change_and (C := Tryz.checked) (X := fun w _ => laidMetH Tryz.prog Rows.nearRadiusRow.laid w) (fun _ _ _ hh h => h.of_heap hh) own started (by kernel_rfl) Tryz.func3
    (ChangeSpec.witness_shaped (enc := enc) (C := Tryz.checked) (os := os) (X := fun w _ => laidMetH Tryz.prog Rows.nearRadiusRow.laid w) false (World.doorLaid Tryz.prog 199 os) #[.slice none 0 0, .agg #[.int .i64 0, .int .i64 0], .int .i64 0] 8 rfl (World.shaped_of_RefB (by kernel_rfl) (by kernel_rfl)) (by kernel_rfl) (by kernel_rfl) (by kernel_rfl) (laidMetH_of_parts3 (fuel := 8) (laidMet_of_run' 8 (by kernel_rfl) (by kernel_rfl)) (by kernel_rfl) (by kernel_rfl))) ?_
  intro W base args ds gs before hval0 hW _ _ hL _
  have hval : ∀ (j : Nat) t v, Tryz.f3.params[j]? = some t → args[j]? = some v → Value.okWide Tryz.prog W .any base t v := hval0
  have hW' := hW
  obtain ⟨p, q, hA0, hV, rfl, hfz, hnd⟩ := hW
  have hA : DataW.TrodAll enc Tryz.prog W 0 (fun _ => true) true Tryz.f3.params.toList args.toList ds p := hA0
  rw [Tryz.params3] at hA hval
  obtain ⟨v0, vs0, d0, ds0, p0, q0, hargs, rfl, rfl, h0, r0⟩ := trodAll_cons hA
  obtain ⟨v1, vs1, d1, ds1, p1, q1, rfl, rfl, rfl, h1, r1⟩ := trodAll_cons r0
  obtain ⟨v2, vs2, d2, ds2, p2, q2, rfl, rfl, rfl, h2, r2⟩ := trodAll_cons r1
  obtain ⟨rfl, rfl, rfl⟩ := trodAll_nil r2
  obtain rfl : args = #[v0, v1, v2] := by cases args; simp_all
  obtain ⟨l0, hl0⟩ := open_boxes (hval 0 22 v0 rfl rfl) h0
  obtain ⟨a1, b1, rfl⟩ := open_pt (hval 1 24 v1 rfl rfl) h1
  obtain ⟨x2, rfl, rfl, rfl, w2⟩ := open_int Tryz.underlying3 (hval 2 3 v2 rfl rfl) h2
  clear hA0 hval0
  have hL' : laidMet Tryz.prog Rows.nearRadiusRow.laid W := by
    have h := hL
    rw [MakeChecks.laidMetH_plain _ _ _ (by kernel_rfl)] at h
    exact h
  have hsh := shape_of (L := Rows.nearRadiusRow.laid) (by kernel_rfl) (by
    intro x hx
    simp only [Rows.nearRadiusRow] at hx
    repeat (rcases List.mem_cons.1 hx with rfl | hx; · exact ⟨_, rfl⟩)
    exact absurd hx (by simp))
  obtain ⟨A, hE⟩ := errs_of hL' hsh (by simp [Rows.nearRadiusRow]) (by simp only [Rows.nearRadiusRow, errN]; decide)
  refine (nearRadius_walk l0 v0 a1 b1 x2 W hl0 hE).mono fun e W' ⟨he, hb⟩ => ?_
  subst he
  exact ⟨_, rfl, law_post laidOut (by kernel_rfl) rfl (by kernel_rfl) Tryz.underlying4 (fun ds hd => by match ds, hd with | [_, _, _], _ => rfl) hW' hb⟩

theorem nearRadius_row : Rows.NearRadiusSaid :=
  OpenClaim.holds_of_wide 3 Tryz.f3 rfl rfl rfl rfl rfl rfl rfl ⟨rfl, rfl, rfl, rfl, rfl⟩ rfl rfl rfl rfl rfl (by kernel_rfl) Tryz.func3 (by kernel_rfl)
    (of_decide_eq_true (by kernel_rfl)) (by unfold Func.isWrapper; first | (rw [if_pos (by decide +kernel)]; kernel_rfl) | (rw [if_neg (by decide +kernel)]; exact ⟨rfl, rfl⟩))
    (fun os started H enc _ => nearRadius_lifted os started H enc)

theorem nearRadius_holds : Rows.NearRadiusCardSaid :=
  Claim7.holds_tied_plain_at .later [] Rows.nearRadiusCard.laidKinds true Rows.nearRadiusCard.stood.harness true
    nearRadius_row (fun _ h => by cases h) (by kernel_rfl) (fun _ h => by cases h) nearRadius_row_tie rfl ⟨rfl, rfl⟩ (by kernel_rfl) rfl
    (fun f fn hf hfn => by
      obtain rfl : f = 3 := Option.some.inj ((show Tryz.prog.funcNamed "paddock/paddocklaw13.NearRadius" = some 3 by kernel_rfl).symm.trans hf) |>.symm
      obtain rfl : fn = Tryz.f3 := (Option.some.inj (Tryz.func3.symm.trans hfn)).symm
      exact ⟨by kernel_rfl, fun j t ht => by
        rw [Tryz.params3] at ht
        have hm : t ∈ [22, 24, 3] := by
          have := Array.mem_of_getElem? ht
          simp at this ⊢
          first | omega | (rcases this with h | h | h <;> simp [h])
        have hall : ([22, 24, 3].all fun u => !Tryz.prog.wantsStandIn u) = true := by kernel_rfl
        exact (show Tryz.prog.wantsStandIn t = false by simpa using List.all_eq_true.1 hall t hm)⟩)
    (by kernel_rfl)
#print axioms nearRadius_holds
end Go.Proofs.YtahichjiphjapaaGreatDoor
