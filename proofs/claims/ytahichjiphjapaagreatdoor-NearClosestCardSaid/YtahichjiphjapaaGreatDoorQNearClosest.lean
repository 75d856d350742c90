import Derived.Test.YtahichjiphjapaaGreatDoorZ56
import Derived.Test.YtahichjiphjapaaGreatDoorZ58
import Derived.Test.YtahichjiphjapaaGreatDoorZ2
import Derived.Test.YtahichjiphjapaaGreatDoorZ24
import Derived.Test.YtahichjiphjapaaGreatDoorZ13

/-
  The walk of NearClosest.
-/
namespace Go.Proofs.YtahichjiphjapaaGreatDoor
set_option linter.unusedSimpArgs false
set_option linter.unusedVariables false
open Go.RowKit Go.Sort Go.Lib Go.Shelf

section
theorem find_step {α : Type} [Inhabited α] {N : List α} {p : α → Bool} {C : Option α} {i : Nat} (hi : i < N.length) (h : C = (N.drop i).find? p) : (p N[i]! = true → C = some N[i]!) ∧ (p N[i]! = false → C = (N.drop (i + 1)).find? p) := by
  rw [List.drop_eq_getElem_cons hi, List.find?_cons] at h
  rw [getElem!_pos N i hi]
  constructor
  · intro e
    rw [e] at h
    exact h
  · intro e
    rw [e] at h
    exact h
set_option maxHeartbeats 4000000 in
set_option maxRecDepth 100000 in
theorem nearClosest_walk (l : List Bx4) (v : Value) (x y : Int) (vb : Value) (lb : List Hd) (W : World) (hvb : Sl encH W vb lb) (hv : Sl encX W v l) {A : Nat → Addr} (hE : Errs W A) :
    Calls Tryz.prog 6 #[v, .agg #[.int .i64 x, .int .i64 y], vb] W fun e w' => e = .returned (.bool true) ∧ RowKit.Below W.heap.size W w' := by
  obtain ⟨pv, cv, rfl, hv1, hv2, hv3⟩ := hvb
  have HVB := Lib.hid (show Sl encH W (.slice pv lb.length cv) lb from ⟨pv, cv, rfl, hv1, hv2, hv3⟩)
  clear hv3
  obtain ⟨w0, hw0⟩ : ∃ w0, w0 = W.alloc (.cells #[.int .i64 x, .int .i64 y] 24) := ⟨_, rfl⟩
  have hb0 : RowKit.Below W.heap.size W w0 := by rw [hw0]; exact Ba (Below.refl _ W) _
  have hk0 : w0.heap[W.heap.size]? = some (.cells #[.int .i64 x, .int .i64 y] 24 (0, 0)) := by rw [hw0]; exact heap_alloc_new W _
  have AL := Lib.hid (alive_any w0 ((Er3.of hE).below hb0))
  have FI := Lib.hid (fun w (hb : RowKit.Below w0.heap.size w0 w) => filled_call l v w (hv.below (Bt hb0 hb)) ((Er3.of hE).below (Bt hb0 hb)))
  have HE := Lib.hid hE
  have B0 := Lib.hid hb0
  have HW := Lib.hid hw0
  have K0 := Lib.hid hk0
  have hbl : W.heap.size < w0.heap.size := by rw [hw0]; simp
  obtain ⟨pb, hpb⟩ : ∃ pb, pb = W.heap.size := ⟨_, rfl⟩
  have HPB := Lib.hid hpb
  rw [← hpb] at hbl K0
  clear hb0 hk0 hw0 hE hv hpb
  go_enter Tryz.func6, Tryz.ntmps6
  go_wp2_with fail
  rw [← HW.out, ← HPB.out]
  refine AL.out.mono ?_
  rintro e w1 ⟨rfl, hb1⟩
  have F1 := Lib.hid (FI.out w1 hb1)
  have B1 := Lib.hid (Bt B0.out hb1)
  have K1 := Lib.hid (blk_below K0.out hb1)
  clear hb1 AL FI K0 HW hbl
  go_wp2_with fail
  refine F1.out.mono ?_
  rintro e w2 ⟨⟨pt, vm, rfl, hR⟩, hb2⟩
  have B2 := Lib.hid (Bt B1.out hb2)
  have k2 := blk_below K1.out hb2
  clear hb2 F1 K1 B1
  cases hf : fillB l
  · clear hR hf
    go_wp2
    go_ret
    exact ⟨rfl, B2.out⟩
  obtain ⟨⟨M, hT⟩, hsB⟩ := hR hf
  obtain ⟨hn, -⟩ := fillB_iff.1 hf
  have ho := fl_once l l.length (by omega)
  have hL := fl_len l l.length
  have hok := hT.okB
  generalize fl l l.length = B at *
  clear hR hf
  obtain ⟨d1, d2, _, _⟩ := two_cells k2
  have hpl := cell_lt d1
  have HB := Lib.hid (show B.length ≤ 100 by omega)
  have K2 := Lib.hid k2
  have PL := Lib.hid (fun w => rplace_call x y w)
  by_cases h60 : (lb.length : Int) > 60
  · clear hT hok ho hL hsB
    go_wp2
    go_ret
    exact ⟨rfl, B2.out⟩
  have eqh := eqH_run
  have gdh := gdH_run
  cases hP : placeB (x, y)
  · have N1 := Lib.hid (nClosest_no x y (.slice pv lb.length cv) hT hP (Er3.of (HE.out.below B2.out)))
    rw [hP] at PL
    clear hT hok ho hL hsB hn hP
    go_wp2_with fail
    refine N1.out.mono ?_
    rintro e w3 ⟨rfl, hb3⟩
    have b3 := Bt hb3 (Ba (Below.refl _ w3) (.cells #[.int .i64 0, .int .i64 0] 42))
    have B3 := Lib.hid (Bt B2.out b3)
    obtain ⟨d1, d2, _, _⟩ := two_cells (blk_below K2.out b3)
    have hpl := cell_lt d1
    have KZ := Lib.hid (heap_alloc_new w3 (.cells #[.int .i64 0, .int .i64 0] 42))
    clear N1 hb3 b3
    go_wp2_with fail
    refine (PL.out _).mono ?_
    rintro e w4 ⟨rfl, hb4⟩
    have B4 := Lib.hid (Bt B3.out hb4)
    obtain ⟨z1, z2, _, _⟩ := two_cells (blk_below KZ.out hb4)
    have hzl := cell_lt z1
    have NR := Lib.hid (num_range (HE.out.below B4.out))
    have e0 := eqh 0 0 0 0
    simp only [decide_true] at e0
    clear hb4 PL eqh
    go_wp2_with fail
    refine NR.out.mono ?_
    rintro e w5 ⟨rfl, hb5⟩
    have B5 := Lib.hid (Bt B4.out hb5)
    clear hb5 NR
    go_wp2
    go_ret
    exact ⟨by simp, B5.out⟩
  · have N1 := Lib.hid (nClosest_do x y (.slice pv lb.length cv) lb (HVB.out.below B2.out) (by omega) hT hP HB.out)
    have RA := Lib.hid (fun w (hb : RowKit.Below w2.heap.size w2 w) => rAll_call B vm x y w (hsB.below hb) HB.out hok ho hP)
    have HLN := Lib.hid (allN_len ho (x, y))
    have HCL := Lib.hid (show closeN B (x, y) lb = ((allN B (x, y)).drop 0).find? (fun h => !decide (h ∈ lb)) from rfl)
    rw [hP] at PL
    generalize allN B (x, y) = N at *
    generalize closeN B (x, y) lb = C at *
    obtain ⟨⟨g1, g2⟩, hG⟩ : ∃ g, C.getD (0, 0) = g := ⟨_, rfl⟩
    obtain ⟨isb, hI⟩ : ∃ isb, C.isSome = isb := ⟨_, rfl⟩
    rw [hG, hI] at N1
    have HG := Lib.hid hG
    have HI := Lib.hid hI
    unfold mH at N1
    dsimp only at N1
    have hN60 : N.length ≤ 60 := by have := HLN.out; omega
    clear hT hok ho hL hsB hn hP hG hI
    go_wp2_with fail
    refine N1.out.mono ?_
    rintro e w3 ⟨rfl, hb3⟩
    have b3 := Bt hb3 (Ba (Below.refl _ w3) (.cells #[.int .i64 g1, .int .i64 g2] 42))
    have B3 := Lib.hid b3
    obtain ⟨d1, d2, _, _⟩ := two_cells (blk_below K2.out b3)
    have hpl := cell_lt d1
    have KZ := Lib.hid (heap_alloc_new w3 (.cells #[.int .i64 g1, .int .i64 g2] 42))
    clear N1 hb3 b3
    go_wp2_with fail
    refine (PL.out _).mono ?_
    rintro e w4 ⟨rfl, hb4⟩
    have B4 := Lib.hid (Bt B3.out hb4)
    obtain ⟨d1, d2, _, _⟩ := two_cells (blk_below K2.out B4.out)
    have hpl := cell_lt d1
    have KZ4 := Lib.hid (blk_below KZ.out hb4)
    have R4 := Lib.hid (RA.out w4 B4.out)
    clear hb4 PL RA KZ
    go_wp2_with fail
    refine R4.out.mono ?_
    rintro e w5 ⟨v5, rfl, hs5, hb5⟩
    have B5 := Lib.hid (Bt B2.out (Bt B4.out hb5))
    have KZ5 := Lib.hid (blk_below KZ4.out hb5)
    have S5 := Lib.hid hs5
    obtain ⟨p5, c5, rfl, q1, q2, q3⟩ := hs5
    have Q3 := Lib.hid q3
    clear hb5 R4 q3 KZ4 d1 d2 hpl
    obtain ⟨zb, hzb⟩ : ∃ zb, zb = w3.heap.size := ⟨_, rfl⟩
    rw [← hzb] at KZ5 ⊢
    clear hzb
    go_wp2
    go_loopw [57] (fun u wr => ∃ i : Nat, u = .int .i64 i ∧ i ≤ N.length ∧ RowKit.Below w5.heap.size w5 wr ∧ Hid (C = (N.drop i).find? (fun h => !decide (h ∈ lb)))) (fun u _ => N.length - (intOf u).toNat)
    case atStart => exact ⟨0, rfl, Nat.zero_le _, Below.refl _ _, HCL⟩
    case round =>
      clear HCL
      obtain ⟨i, rfl, hi, hb, HF⟩ := hrel
      have HBi := Lib.hid hb
      obtain ⟨z1, z2, _, _⟩ := two_cells (blk_below KZ5.out hb)
      have hzl := cell_lt z1
      clear hb
      by_cases hil : i < N.length
      · obtain ⟨g, o, rfl, hg, hc⟩ := Q3.out (by omega)
        obtain ⟨a1, a2⟩ := atH hc hil
        replace a1 := Bc HBi.out hg a1
        replace a2 := Bc HBi.out hg a2
        have hgl := Bl HBi.out hg
        obtain ⟨f1, f2⟩ := find_step hil HF.out
        generalize N[i]! = h at *
        obtain ⟨h1, h2⟩ := h
        dsimp only at a1 a2
        have bA := Ba (Below.refl _ wr) (.cells #[.int .i64 h1, .int .i64 h2] 42)
        have HK := Lib.hid (heap_alloc_new wr (.cells #[.int .i64 h1, .int .i64 h2] 42))
        have C1 := Lib.hid (has_call lb (.slice pv lb.length cv) h1 h2 _ ((HVB.out.below (Bt B5.out HBi.out)).below bA))
        clear hc
        by_cases hm : ((h1, h2) : Hd) ∈ lb
        · rw [decide_eq_true hm] at C1
          have F2 := Lib.hid (f2 (by simp [hm]))
          clear f1 f2 hm eqh
          go_wp2_with fail
          refine C1.out.mono ?_
          rintro e w6 ⟨rfl, hg6⟩
          have B6 := Lib.hid (Bt HBi.out (Bt bA hg6.below))
          clear C1 hg6 bA
          go_wp2
          go_roundw
          case measure => simp only [intOf]; omega
          case rel => exact ⟨i + 1, by go_num, by omega, B6.out, F2⟩
        · rw [decide_eq_false hm] at C1
          have hC := f1 (by simp [hm])
          have hG := HG.out
          have hI := HI.out
          rw [hC] at hG hI
          simp only [Option.getD_some, Prod.mk.injEq] at hG
          simp only [Option.isSome_some] at hI
          obtain ⟨rfl, rfl⟩ := hG
          subst hI
          have e0 := eqh h1 h2 h1 h2
          simp only [decide_true] at e0
          clear f1 f2 hm eqh hC
          go_wp2_with fail
          refine C1.out.mono ?_
          rintro e w6 ⟨rfl, hg6⟩
          have b6 := Bt bA hg6.below
          obtain ⟨t1, t2, _, _⟩ := two_cells (blk_below HK.out hg6.below)
          have htl := cell_lt t1
          replace z1 := Bc b6 hzl z1
          replace z2 := Bc b6 hzl z2
          replace hzl := Bl b6 hzl
          have B6 := Lib.hid (Bt HBi.out b6)
          clear C1 hg6 bA b6
          go_wp2
          go_ret
          exact ⟨by simp, Bt B5.out B6.out⟩
      · have hin : i = N.length := by omega
        subst hin
        have hC := HF.out
        rw [List.drop_length] at hC
        have hG := HG.out
        have hI := HI.out
        rw [show C = none from hC] at hG hI
        simp only [Option.getD_none, Prod.mk.injEq] at hG
        simp only [Option.isSome_none] at hI
        obtain ⟨rfl, rfl⟩ := hG
        subst hI
        have e0 := eqh 0 0 0 0
        simp only [decide_true] at e0
        clear hC eqh hil
        go_wp2
        go_ret
        exact ⟨by simp, Bt B5.out HBi.out⟩
end
end Go.Proofs.YtahichjiphjapaaGreatDoor

/-
  Whatever boxes, point and handles it is given, NearClosest answers true and leaves its arguments as they were. Conditions: the errors' variables that it names read as the program's text lays them (the card ties them to that text).
-/
namespace Go.Proofs.YtahichjiphjapaaGreatDoor
set_option linter.unusedSimpArgs false
set_option linter.unusedVariables false
open Go.ChangeShapes Go.WideShapes Go.ChangeAt Go.RowKit Go.Joins

set_option maxRecDepth 100000 in
theorem nearClosest_lifted (os : Os) (started : os.Started) (H : Type) (enc : TypeId × Value → H) :
    ReturnsInHanded {} Tryz.checked os 6 .any (fun w args => (Rows.nearClosestSpec.pre enc Tryz.prog Tryz.f6 [] false w args ∧ laidMetH Tryz.prog Rows.nearClosestRow.laid w) ∧ sizedMet enc Tryz.prog Tryz.f6 (OpenSpec.ofChange Rows.nearClosestSpec) false w args)
      (Rows.nearClosestSpec.post enc Tryz.prog Tryz.f6 false true false false) := by
  refine returnsInHanded_of_change_and (C := Tryz.checked) (X := fun w _ => laidMetH Tryz.prog Rows.nearClosestRow.laid w) (fun _ _ _ hh h => h.of_heap hh) own started (by kernel_rfl) Tryz.func6
    (ChangeSpec.witness_shaped (enc := enc) (C := Tryz.checked) (os := os) (X := fun w _ => laidMetH Tryz.prog Rows.nearClosestRow.laid w) false (World.doorLaid Tryz.prog 199 os) #[.slice none 0 0, .agg #[.int .i64 0, .int .i64 0], .slice none 0 0] 8 rfl (World.shaped_of_RefB (by kernel_rfl) (by kernel_rfl)) (by kernel_rfl) (by kernel_rfl) (by kernel_rfl) (laidMetH_of_parts3 (fuel := 8) (laidMet_of_run' 8 (by kernel_rfl) (by kernel_rfl)) (by kernel_rfl) (by kernel_rfl))) ?_
  intro W base args ds gs before hval0 hW _ _ hL _
  have hval : ∀ (j : Nat) t v, Tryz.f6.params[j]? = some t → args[j]? = some v → Value.okWide Tryz.prog W .any base t v := hval0
  have hW' := hW
  obtain ⟨p, q, hA0, hV, rfl, hfz, hnd⟩ := hW
  have hA : DataW.TrodAll enc Tryz.prog W 0 (fun _ => true) true Tryz.f6.params.toList args.toList ds p := hA0
  rw [Tryz.params6] at hA hval
  obtain ⟨v0, vs0, d0, ds0, p0, q0, hargs, rfl, rfl, h0, r0⟩ := trodAll_cons hA
  obtain ⟨v1, vs1, d1, ds1, p1, q1, rfl, rfl, rfl, h1, r1⟩ := trodAll_cons r0
  obtain ⟨v2, vs2, d2, ds2, p2, q2, rfl, rfl, rfl, h2, r2⟩ := trodAll_cons r1
  obtain ⟨rfl, rfl, rfl⟩ := trodAll_nil r2
  obtain rfl : args = #[v0, v1, v2] := by cases args; simp_all
  obtain ⟨l0, hl0⟩ := open_boxes (hval 0 22 v0 rfl rfl) h0
  obtain ⟨a1, b1, rfl⟩ := open_pt (hval 1 24 v1 rfl rfl) h1
  obtain ⟨l2, hl2⟩ := open_hds (hval 2 30 v2 rfl rfl) h2
  clear hA0 hval0
  have hL' : laidMet Tryz.prog Rows.nearClosestRow.laid W := by
    have h := hL
    rw [MakeChecks.laidMetH_plain _ _ _ (by kernel_rfl)] at h
    exact h
  have hsh := shape_of (L := Rows.nearClosestRow.laid) (by kernel_rfl) (by
    intro x hx
    simp only [Rows.nearClosestRow] at hx
    repeat (rcases List.mem_cons.1 hx with rfl | hx; · exact ⟨_, rfl⟩)
    exact absurd hx (by simp))
  obtain ⟨A, hE⟩ := errs_of hL' hsh (by simp [Rows.nearClosestRow]) (by simp only [Rows.nearClosestRow, errN]; decide)
  refine (nearClosest_walk l0 v0 a1 b1 v2 l2 W hl2 hl0 hE).mono fun e W' ⟨he, hb⟩ => ?_
  subst he
  exact ⟨_, rfl, law_post laidOut (by kernel_rfl) rfl (by kernel_rfl) Tryz.underlying4 (fun ds hd => by match ds, hd with | [_, _, _], _ => rfl) hW' hb⟩

theorem nearClosest_row : Rows.NearClosestSaid :=
  OpenClaim.holds_of_wide 6 Tryz.f6 rfl rfl rfl rfl rfl rfl rfl ⟨rfl, rfl, rfl, rfl, rfl⟩ rfl rfl rfl rfl rfl (by kernel_rfl) Tryz.func6 (by kernel_rfl)
    (of_decide_eq_true (by kernel_rfl)) (by unfold Func.isWrapper; first | (rw [if_pos (by decide +kernel)]; kernel_rfl) | (rw [if_neg (by decide +kernel)]; exact ⟨rfl, rfl⟩))
    (fun os started H enc _ => nearClosest_lifted os started H enc)

theorem nearClosest_holds : Rows.NearClosestCardSaid :=
  Claim7.holds_tied_plain_at .later [] Rows.nearClosestCard.laidKinds true Rows.nearClosestCard.stood.harness true
    nearClosest_row (fun _ h => by cases h) (by kernel_rfl) (fun _ h => by cases h) nearClosest_row_tie rfl ⟨rfl, rfl⟩ (by kernel_rfl) rfl
    (fun f fn hf hfn => by
      obtain rfl : f = 6 := Option.some.inj ((show Tryz.prog.funcNamed "paddock/paddocklaw13.NearClosest" = some 6 by kernel_rfl).symm.trans hf) |>.symm
      obtain rfl : fn = Tryz.f6 := (Option.some.inj (Tryz.func6.symm.trans hfn)).symm
      exact ⟨by kernel_rfl, fun j t ht => by
        rw [Tryz.params6] at ht
        have hm : t ∈ [22, 24, 30] := by
          have := Array.mem_of_getElem? ht
          simp at this ⊢
          first | omega | (rcases this with h | h | h <;> simp [h])
        have hall : ([22, 24, 30].all fun u => !Tryz.prog.wantsStandIn u) = true := by kernel_rfl
        exact (show Tryz.prog.wantsStandIn t = false by simpa using List.all_eq_true.1 hall t hm)⟩)
    (by kernel_rfl)
#print axioms nearClosest_holds
end Go.Proofs.YtahichjiphjapaaGreatDoor
