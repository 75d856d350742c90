import Derived.Test.YtahichjiphjapaaGreatDoorZ56
import Derived.Test.YtahichjiphjapaaGreatDoorZ57
import Derived.Test.YtahichjiphjapaaGreatDoorZ2
import Derived.Test.YtahichjiphjapaaGreatDoorZ13

/-
  The walk of NearGrows.
-/
namespace Go.Proofs.YtahichjiphjapaaGreatDoor
set_option linter.unusedSimpArgs false
set_option linter.unusedVariables false
open Go.RowKit Go.Sort Go.Lib Go.Shelf

section
variable {eR eN eF : TypeId × Value}
set_option maxHeartbeats 4000000 in
set_option maxRecDepth 100000 in
theorem nearGrows_walk (l : List Bx4) (v : Value) (x y r : Int) (W : World) (hv : Sl encX W v l) (hE : Er3 W eR eN eF) :
    Calls Tryz.prog 7 #[v, .agg #[.int .i64 x, .int .i64 y], .int .i64 r] W fun e w' => e = .returned (.bool true) ∧ RowKit.Below W.heap.size W w' := by
  obtain ⟨w0, hw0⟩ : ∃ w0, w0 = W.alloc (.cells #[.int .i64 x, .int .i64 y] 24) := ⟨_, rfl⟩
  have hb0 : RowKit.Below W.heap.size W w0 := by rw [hw0]; exact Ba (Below.refl _ W) _
  have hk0 : w0.heap[W.heap.size]? = some (.cells #[.int .i64 x, .int .i64 y] 24 (0, 0)) := by rw [hw0]; exact heap_alloc_new W _
  have AL := Lib.hid (alive_any w0 (hE.below hb0))
  have FI := Lib.hid (fun w (hb : RowKit.Below w0.heap.size w0 w) => filled_call l v w (hv.below (Bt hb0 hb)) (hE.below (Bt hb0 hb)))
  have HE := Lib.hid hE
  have B0 := Lib.hid hb0
  have HW := Lib.hid hw0
  have K0 := Lib.hid hk0
  have hbl : W.heap.size < w0.heap.size := by rw [hw0]; simp
  obtain ⟨pb, hpb⟩ : ∃ pb, pb = W.heap.size := ⟨_, rfl⟩
  have HPB := Lib.hid hpb
  rw [← hpb] at hbl K0
  clear hb0 hk0 hw0 hE hv hpb
  go_enter Tryz.func7, Tryz.ntmps7
  go_wp2_with fail
  rw [← HW.out, ← HPB.out]
  refine AL.out.mono ?_
  rintro e w1 ⟨rfl, hb1⟩
  have F1 := Lib.hid (FI.out w1 hb1)
  have B1 := Lib.hid (Bt B0.out hb1)
  have K1 := Lib.hid (blk_below K0.out hb1)
  clear hb1 AL FI K0 HW hbl
  go_wp2_with fail
  refine F1.out.mono ?_
  rintro e w2 ⟨⟨pt, vm, rfl, hR⟩, hb2⟩
  have B2 := Lib.hid (Bt B1.out hb2)
  have k2 := blk_below K1.out hb2
  clear hb2 F1 K1 B1
  cases hf : fillB l
  · clear hR hf
    go_wp2
    go_ret
    exact ⟨rfl, B2.out⟩
  obtain ⟨⟨M, hT⟩, -⟩ := hR hf
  obtain ⟨hn, -⟩ := fillB_iff.1 hf
  have ho := fl_once l l.length (by omega)
  have hL := fl_len l l.length
  generalize fl l l.length = B at *
  clear hR hf
  by_cases hr0 : r < 0
  · clear hT ho hL
    go_wp2
    go_ret
    exact ⟨rfl, B2.out⟩
  by_cases hr1 : r ≥ 4194304
  · clear hT ho hL
    go_wp2
    go_ret
    exact ⟨rfl, B2.out⟩
  obtain ⟨d1, d2, _, _⟩ := two_cells k2
  have hpl := cell_lt d1
  have HB := Lib.hid (show B.length ≤ 100 by omega)
  have hk1 : okRad r = true := by simp [okRad]; omega
  have hk2 : okRad (r + 1) = true := by simp [okRad]; omega
  cases hP : placeB (x, y)
  · have N1 := Lib.hid (nRadius_no x y r hT (by rw [hP]; rfl) (HE.out.below B2.out))
    have PL := Lib.hid (fun w => rplace_call x y w)
    rw [hP] at PL
    have K2 := Lib.hid k2
    clear hT hP hk1 hk2 ho hL
    go_wp2_with fail
    refine N1.out.mono ?_
    rintro e w3 ⟨v3, rfl, _, hb3⟩
    obtain ⟨d1, d2, _, _⟩ := two_cells (blk_below K2.out hb3)
    have hpl := cell_lt d1
    have B3 := Lib.hid (Bt B2.out hb3)
    clear N1 hb3
    go_wp2_with fail
    refine (PL.out _).mono ?_
    rintro e w4 ⟨rfl, hb4⟩
    have B4 := Lib.hid (Bt B3.out hb4)
    clear hb4 PL
    go_wp2
    go_ret
    exact ⟨rfl, B4.out⟩
  · have N1 := Lib.hid (nRadius_do x y r hT (by rw [hP, hk1]; rfl) HB.out)
    have N2 := Lib.hid (fun w (hb : RowKit.Below w2.heap.size w2 w) => nRadius_do x y (r + 1) ((fr_tr pt _).below hT hb) (by rw [hP, hk2]; rfl) HB.out)
    have N3 := Lib.hid (fun w (hb : RowKit.Below w2.heap.size w2 w) => nNearest_do x y ((radL B (x, y) r).length : Int) ((fr_tr pt _).below hT hb) (by rw [hP]; simp) HB.out)
    have hmore := rad_more (B := B) (p := (x, y)) (r := r) (by omega)
    have hgrow : Hid (∀ h, h ∈ radL B (x, y) r → h ∈ radL B (x, y) (r + 1)) := fun h => rad_grow (by omega)
    have hfst : Hid (∀ h, h ∈ radL B (x, y) r → h ∈ (allN B (x, y)).take (radL B (x, y) r).length) := fun h hh => (rad_first ho (x, y) r h).2 hh
    have hlc : ((allN B (x, y)).take (radL B (x, y) r).length).length = (radL B (x, y) r).length := by
      have h1 := allN_len ho (x, y)
      have h2 := radL_len B (x, y) r
      rw [List.length_take]
      omega
    have hl1 := radL_len B (x, y) (r + 1)
    have HK2 := Lib.hid k2
    simp only [Int.toNat_natCast] at N3
    generalize (allN B (x, y)).take (radL B (x, y) r).length = lc at *
    generalize radL B (x, y) (r + 1) = lb at *
    generalize radL B (x, y) r = la at *
    have HLC := Lib.hid hlc
    have hla : la.length ≤ 60 := by omega
    have hlb : lb.length ≤ 60 := by omega
    clear hT hP hk1 hk2 ho hL hl1 hlc
    go_wp2_with fail
    refine N1.out.mono ?_
    rintro e w3 ⟨v3, rfl, hs3, hb3⟩
    obtain ⟨d1, d2, _, _⟩ := two_cells (blk_below HK2.out hb3)
    have hpl := cell_lt d1
    have M3 := Lib.hid (N2.out w3 hb3)
    have H3 := Lib.hid hb3
    have S3 := Lib.hid hs3
    obtain ⟨p3, c3, rfl, a1, a2, a3⟩ := hs3
    clear N1 N2 hb3 a1 a2 a3
    go_wp2_with fail
    refine M3.out.mono ?_
    rintro e w4 ⟨v4, rfl, hs4, hb4⟩
    obtain ⟨d1, d2, _, _⟩ := two_cells (blk_below HK2.out (Bt H3.out hb4))
    have hpl := cell_lt d1
    have H4 := Lib.hid (Bt H3.out hb4)
    have S4 := Lib.hid hs4
    have S3b := Lib.hid (S3.out.below hb4)
    obtain ⟨p4, c4, rfl, a1, a2, a3⟩ := hs4
    have M4 := Lib.hid (N3.out w4 H4.out)
    clear N3 hb4 a1 a2 a3 M3 H3
    go_wp2_with fail
    refine M4.out.mono ?_
    rintro e w5 ⟨v5, rfl, hs5, hb5⟩
    have H5 := Lib.hid (Bt H4.out hb5)
    have T3 := Lib.hid (S3b.out.below hb5)
    have T4 := Lib.hid (S4.out.below hb5)
    have T5 := Lib.hid hs5
    obtain ⟨p5, c5, rfl, a1, a2, a3⟩ := hs5
    rw [HLC.out]
    have hlt1 : ¬ (lb.length : Int) < (la.length : Int) := by omega
    clear hmore hb5 a1 a2 a3 M4 H4 S3 S4 S3b d1 d2 hpl
    go_wp2
    rw [show decide (lb.length < la.length) = false from decide_eq_false (by omega), show decide (r < 0) = false from decide_eq_false (by omega), show decide (4194304 ≤ r) = false from decide_eq_false (by omega), Bool.false_or]
    go_loopw [86] (fun u wr => ∃ i : Nat, u = .int .i64 i ∧ i ≤ la.length ∧ RowKit.Below w5.heap.size w5 wr) (fun u _ => la.length - (intOf u).toNat)
    case atStart => exact ⟨0, rfl, Nat.zero_le _, Below.refl _ _⟩
    case round =>
      obtain ⟨i, rfl, hi, hb⟩ := hrel
      have HBi := Lib.hid hb
      clear hb
      by_cases hil : i < la.length
      · obtain ⟨q, cq, f1, f2, f3, f4⟩ := T3.out.below HBi.out
        obtain ⟨rfl, rfl⟩ : p3 = q ∧ c3 = cq := by simpa using f1
        obtain ⟨g, o, rfl, hg, hc⟩ := f4 (by omega)
        obtain ⟨a1, a2⟩ := atH hc hil
        have hmem : la[i]! ∈ la := by rw [getElem!_pos la i hil]; exact List.getElem_mem _
        have m1 := hgrow.out _ hmem
        have m2 := hfst.out _ hmem
        generalize la[i]! = h at *
        obtain ⟨h1, h2⟩ := h
        dsimp only at a1 a2
        have hk := heap_alloc_new wr (.cells #[.int .i64 h1, .int .i64 h2] 42)
        have bA := Ba (Below.refl _ wr) (.cells #[.int .i64 h1, .int .i64 h2] 42)
        have C1 := Lib.hid (has_call lb (.slice p4 lb.length c4) h1 h2 _ ((T4.out.below HBi.out).below bA))
        have C2 := Lib.hid (fun w (hb : RowKit.Below wr.heap.size wr w) => has_call lc (.slice p5 la.length c5) h1 h2 w (by have := (T5.out.below HBi.out).below hb; rwa [HLC.out] at this))
        rw [decide_eq_true m1] at C1
        simp only [decide_eq_true m2] at C2
        have HK := Lib.hid hk
        clear hk m1 m2 f1 f2 f3 f4 hc
        go_wp2_with fail
        refine C1.out.mono ?_
        rintro e w6 ⟨rfl, hg6⟩
        obtain ⟨t1, t2, _, _⟩ := two_cells (blk_below HK.out hg6.below)
        have htl := cell_lt t1
        have B6 := Lib.hid (Bt bA hg6.below)
        have C3 := Lib.hid (C2.out w6 B6.out)
        clear C1 C2 hg6 bA
        go_wp2_with fail
        refine C3.out.mono ?_
        rintro e w7 ⟨rfl, hg7⟩
        have B7 := Lib.hid (Bt HBi.out (Bt B6.out hg7.below))
        clear C3 hg7
        go_wp2
        go_roundw
        case measure => simp only [intOf]; omega
        case rel => exact ⟨i + 1, by go_num, by omega, B7.out⟩
      · go_wp2
        go_ret
        exact ⟨rfl, Bt (Bt B2.out H5.out) HBi.out⟩
end
end Go.Proofs.YtahichjiphjapaaGreatDoor

/-
  Whatever boxes, point and radius it is given, NearGrows answers true and leaves its arguments as they were. Conditions: the errors' variables that it names read as the program's text lays them (the card ties them to that text).
-/
namespace Go.Proofs.YtahichjiphjapaaGreatDoor
set_option linter.unusedSimpArgs false
set_option linter.unusedVariables false
open Go.ChangeShapes Go.WideShapes Go.ChangeAt Go.RowKit Go.Joins

set_option maxRecDepth 100000 in
theorem nearGrows_lifted (os : Os) (started : os.Started) (H : Type) (enc : TypeId × Value → H) :
    ReturnsInHanded {} Tryz.checked os 7 .any (fun w args => (Rows.nearGrowsSpec.pre enc Tryz.prog Tryz.f7 [] false w args ∧ laidMetH Tryz.prog Rows.nearGrowsRow.laid w) ∧ sizedMet enc Tryz.prog Tryz.f7 (OpenSpec.ofChange Rows.nearGrowsSpec) false w args)
      (Rows.nearGrowsSpec.post enc Tryz.prog Tryz.f7 false true false false) := by
  refine returnsInHanded_of_change_and (C := Tryz.checked) (X := fun w _ => laidMetH Tryz.prog Rows.nearGrowsRow.laid w) (fun _ _ _ hh h => h.of_heap hh) own started (by kernel_rfl) Tryz.func7
    (ChangeSpec.witness_shaped (enc := enc) (C := Tryz.checked) (os := os) (X := fun w _ => laidMetH Tryz.prog Rows.nearGrowsRow.laid w) false (World.doorLaid Tryz.prog 199 os) #[.slice none 0 0, .agg #[.int .i64 0, .int .i64 0], .int .i64 0] 8 rfl (World.shaped_of_RefB (by kernel_rfl) (by kernel_rfl)) (by kernel_rfl) (by kernel_rfl) (by kernel_rfl) (laidMetH_of_parts3 (fuel := 8) (laidMet_of_run' 8 (by kernel_rfl) (by kernel_rfl)) (by kernel_rfl) (by kernel_rfl))) ?_
  intro W base args ds gs before hval0 hW _ _ hL _
  have hval : ∀ (j : Nat) t v, Tryz.f7.params[j]? = some t → args[j]? = some v → Value.okWide Tryz.prog W .any base t v := hval0
  have hW' := hW
  obtain ⟨p, q, hA0, hV, rfl, hfz, hnd⟩ := hW
  have hA : DataW.TrodAll enc Tryz.prog W 0 (fun _ => true) true Tryz.f7.params.toList args.toList ds p := hA0
  rw [Tryz.params7] at hA hval
  obtain ⟨v0, vs0, d0, ds0, p0, q0, hargs, rfl, rfl, h0, r0⟩ := trodAll_cons hA
  obtain ⟨v1, vs1, d1, ds1, p1, q1, rfl, rfl, rfl, h1, r1⟩ := trodAll_cons r0
  obtain ⟨v2, vs2, d2, ds2, p2, q2, rfl, rfl, rfl, h2, r2⟩ := trodAll_cons r1
  obtain ⟨rfl, rfl, rfl⟩ := trodAll_nil r2
  obtain rfl : args = #[v0, v1, v2] := by cases args; simp_all
  obtain ⟨l0, hl0⟩ := open_boxes (hval 0 22 v0 rfl rfl) h0
  obtain ⟨a1, b1, rfl⟩ := open_pt (hval 1 24 v1 rfl rfl) h1
  obtain ⟨x2, rfl, rfl, rfl, w2⟩ := open_int Tryz.underlying3 (hval 2 3 v2 rfl rfl) h2
  clear hA0 hval0
  have hL' : laidMet Tryz.prog Rows.nearGrowsRow.laid W := by
    have h := hL
    rw [MakeChecks.laidMetH_plain _ _ _ (by kernel_rfl)] at h
    exact h
  obtain ⟨aR, hR⟩ := sent_range hL' (.head _)
  obtain ⟨aN, hN⟩ := sent_none hL' (.tail _ (.head _))
  obtain ⟨aF, hF⟩ := sent_form hL' (.tail _ (.tail _ (.head _)))
  refine (nearGrows_walk l0 v0 a1 b1 x2 W hl0 (Er3.three hR hN hF)).mono fun e W' ⟨he, hb⟩ => ?_
  subst he
  exact ⟨_, rfl, law_post laidOut (by kernel_rfl) rfl (by kernel_rfl) Tryz.underlying4 (fun ds hd => by match ds, hd with | [_, _, _], _ => rfl) hW' hb⟩

theorem nearGrows_row : Rows.NearGrowsSaid :=
  OpenClaim.holds_of_wide 7 Tryz.f7 rfl rfl rfl rfl rfl rfl rfl ⟨rfl, rfl, rfl, rfl, rfl⟩ rfl rfl rfl rfl rfl (by kernel_rfl) Tryz.func7 (by kernel_rfl)
    (of_decide_eq_true (by kernel_rfl)) (by unfold Func.isWrapper; first | (rw [if_pos (by decide +kernel)]; kernel_rfl) | (rw [if_neg (by decide +kernel)]; exact ⟨rfl, rfl⟩))
    (fun os started H enc _ => nearGrows_lifted os started H enc)

theorem nearGrows_holds : Rows.NearGrowsCardSaid :=
  Claim7.holds_tied_plain_at .later [] Rows.nearGrowsCard.laidKinds true Rows.nearGrowsCard.stood.harness true
    nearGrows_row (fun _ h => by cases h) (by kernel_rfl) (fun _ h => by cases h) nearGrows_row_tie rfl ⟨rfl, rfl⟩ (by kernel_rfl) rfl
    (fun f fn hf hfn => by
      obtain rfl : f = 7 := Option.some.inj ((show Tryz.prog.funcNamed "paddock/paddocklaw13.NearGrows" = some 7 by kernel_rfl).symm.trans hf) |>.symm
      obtain rfl : fn = Tryz.f7 := (Option.some.inj (Tryz.func7.symm.trans hfn)).symm
      exact ⟨by kernel_rfl, fun j t ht => by
        rw [Tryz.params7] at ht
        have hm : t ∈ [22, 24, 3] := by
          have := Array.mem_of_getElem? ht
          simp at this ⊢
          first | omega | (rcases this with h | h | h <;> simp [h])
        have hall : ([22, 24, 3].all fun u => !Tryz.prog.wantsStandIn u) = true := by kernel_rfl
        exact (show Tryz.prog.wantsStandIn t = false by simpa using List.all_eq_true.1 hall t hm)⟩)
    (by kernel_rfl)
#print axioms nearGrows_holds
end Go.Proofs.YtahichjiphjapaaGreatDoor
