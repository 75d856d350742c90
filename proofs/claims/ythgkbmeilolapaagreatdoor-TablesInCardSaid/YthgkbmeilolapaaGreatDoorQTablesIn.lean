import Derived.Test.YthgkbmeilolapaaGreatDoorZ22
import Derived.Test.YthgkbmeilolapaaGreatDoorZ4
import Derived.Deep.CutBlock
import Derived.Test.YthgkbmeilolapaaGreatDoorZ13

/-
  The walk of TablesIn.
-/
namespace Go.Proofs.YthgkbmeilolapaaGreatDoor
set_option linter.unusedSimpArgs false
set_option linter.unusedVariables false
open Go.RowKit Go.Sort Go.Lib Go.Shelf

section
variable {A : Nat → Addr}
set_option maxHeartbeats 8000000 in
set_option maxRecDepth 100000 in
theorem tablesIn_walk (l : List Rr) (v : Value) (w : World) (hl : Sl encRr w v l) (hr : ∀ r ∈ l, Sl encV w r.1 r.2) (hE : Er8 w A) (hT : TabW w) :
    Calls Tryz.prog 8 #[v] w fun e w' => e = .returned (.bool true) ∧ RowKit.Below w.heap.size w w' := by
  have C0 := Lib.hid (alive8_any w hE hT)
  have HA := Lib.hid (Era.of hE hT (Nat.le_refl w.heap.size))
  have HR := Lib.hid hr
  have HV := Lib.hid hl.slN
  obtain ⟨pv, cv, rfl, hcv, hcm, _⟩ := hl
  have hcv2 : l.length ≤ 9223372036854775807 := by unfold maxLen at hcm; omega
  clear hE hT hr
  by_cases h30 : l.length > 30
  · have h30' : (l.length : Int) > 30 := by omega
    go_enter Tryz.func8, Tryz.ntmps8
    go_wp2_with fail
    refine C0.out.mono ?_
    rintro e w1 ⟨rfl, hb1⟩
    go_wp2
    go_ret
    exact ⟨rfl, hb1⟩
  · have h30' : ¬ (l.length : Int) > 30 := by omega
    go_enter Tryz.func8, Tryz.ntmps8
    go_wp2_with fail
    refine C0.out.mono ?_
    rintro e w2 ⟨rfl, hb2⟩
    have B2 := Lib.hid hb2
    clear hb2 C0
    have NW := Lib.hid (newS (N := NoN) B2.out.size (fun b e => e.elim))
    go_wp2_with fail
    refine NW.out.mono ?_
    rintro e w3 ⟨ps, rfl, hS3, hb3⟩
    have S3 := Lib.hid hS3
    have B3 := Lib.hid (Bt B2.out hb3)
    clear hS3 hb3 NW B2
    go_wp2
    go_loopw [21] (fun s1 wr => ∃ (k : Nat) (L : List En), s1 = .int .i64 k ∧ k ≤ l.length ∧ Hid (StoO NoN w.heap.size wr ps L) ∧ Hid (Upto l k L) ∧ Hid (RowKit.Below w.heap.size w wr)) (fun i _ => l.length - (intOf i).toNat)
    case atStart => exact ⟨0, [], rfl, Nat.zero_le _, S3, Lib.hid (upto_zero l), B3⟩
    case round =>
      obtain ⟨k, L, rfl, hk, HS, HP, HB⟩ := hrel
      by_cases hkn : k < l.length
      · have hkz : (k : Int) < (l.length : Int) := by omega
        have hmem : l[k]! ∈ l := by rw [getElem!_pos l k hkn]; exact List.getElem_mem _
        have hsl := HR.out _ hmem
        have UP := Lib.hid (fun h32 hr => upto_step HP.out (k := k) h32 hr)
        obtain ⟨p', c', e', _, _, hcell⟩ := HV.out
        simp only [Value.slice.injEq] at e'
        obtain ⟨rfl, _, rfl⟩ := e'
        obtain ⟨g, o, rfl, hg, _, hcells⟩ := hcell (by omega)
        have v0 := Bc HB.out hg (atRr hcells hkn)
        have hgr : g < wr.heap.size := Nat.lt_of_lt_of_le hg HB.out.size
        generalize l[k]! = y at *
        obtain ⟨yv, yr⟩ := y
        dsimp only at *
        have HY := Lib.hid hsl.slN
        obtain ⟨pk, ck, rfl, _, hck, _⟩ := hsl
        have hck2 : yr.length ≤ 9223372036854775807 := by unfold maxLen at hck; omega
        clear hcells hcell hmem
        by_cases hy : yr.length > 20
        · have hy' : (yr.length : Int) > 20 := by omega
          go_wp2
          go_ret
          exact ⟨rfl, HB.out⟩
        · have hy' : ¬ (yr.length : Int) > 20 := by omega
          have CR := Lib.hid (rright_call yr _ wr (HY.out.sl.below HB.out) (by omega))
          cases hrb : rightB yr with
          | false =>
            rw [hrb] at CR
            go_wp2_with fail
            refine CR.out.mono ?_
            rintro e w5 ⟨rfl, hb5⟩
            have B5 := Bt HB.out hb5
            go_wp2
            go_ret
            exact ⟨rfl, B5⟩
          | true =>
            rw [hrb] at CR
            obtain ⟨p1, U1⟩ := UP.out (by omega) ((rightB_iff _).1 hrb)
            have HU1 := Lib.hid U1
            go_wp2_with fail
            refine CR.out.mono ?_
            rintro e w5 ⟨rfl, hb5⟩
            have CP := Lib.hid (putS (HS.out.below hb5) (k : Int) 1 (hdOk_idx k (by omega)) yr _ (HY.out.below (Bt HB.out hb5)) (fun b e => .inl e) (by omega) (HA.out.below (Bt HB.out hb5)))
            rw [p1, errV_no] at CP
            have B5 := Lib.hid (Bt HB.out hb5)
            clear hb5 v0 hgr U1 UP p1 CR
            go_wp2_with fail
            refine CP.out.mono ?_
            rintro e w6 ⟨rfl, hS6, ht6⟩
            have S6 := Lib.hid hS6
            have B6 := Lib.hid (B5.out.trans (OffT.below ht6 B5.out.size))
            clear hS6 ht6 CP B5
            go_wp2
            go_roundw
            case measure => simp [intOf]; omega
            case rel => exact ⟨k + 1, _, by go_num, by omega, S6, HU1, B6⟩
      · have hkk : k = l.length := by omega
        subst hkk
        have CM := Lib.hid (masksS HS.out)
        have hlen := HP.out.len
        clear S3 B3
        go_wp2_with fail
        refine CM.out.mono ?_
        rintro e w4 ⟨vm, rfl, ho4, hb4⟩
        have O4 := Lib.hid ho4
        obtain ⟨pm, cm, rfl, hcm1, hcm2, hpm⟩ := row_val ho4
        have hcm3 : (mskE L).length ≤ 9223372036854775807 := by unfold maxLen at hcm2; omega
        have S4 := Lib.hid (HS.out.below hb4)
        have B4 := Lib.hid (Bt HB.out hb4)
        clear ho4 hb4 CM
        generalize hwc : wr = wc at *
        clear hwc wr
        go_wp2
        go_loopw [7, 48] (fun s2 s3 wr => ∃ (k : Nat), s2 = .int .i64 (sumIn L ((mskE L).take k) : Nat) ∧ s3 = .int .i64 k ∧ k ≤ (mskE L).length ∧ Hid (RowKit.Below w4.heap.size w4 wr)) (fun _ i _ => (mskE L).length - (intOf i).toNat)
        case atStart => exact ⟨0, by simp [sumIn], rfl, Nat.zero_le _, Lib.hid (Below.refl _ _)⟩
        case round =>
          obtain ⟨k, rfl, rfl, hk, HZ⟩ := hrel
          have HBz := Lib.hid (Bt B4.out HZ.out)
          by_cases hkn : k < (mskE L).length
          · have hkz : (k : Int) < ((mskE L).length : Int) := by omega
            obtain ⟨hpos, hq⟩ := mskE_pos hkn
            obtain ⟨g, rfl, hg, _⟩ := hpm (by omega)
            have m0 : w4.cell? ⟨g, k, none⟩ = some (.int .u64 ((mskE L)[k]! : Nat)) := by
              have := cellsI O4.out k (.int .u64 ((mskE L)[k]! : Nat)) (by rw [List.getElem?_map, List.getElem?_eq_getElem hkn, getElem!_pos (mskE L) k hkn]; rfl)
              simpa using this
            replace m0 := Bc HZ.out hg m0
            have hgr : g < wr.heap.size := Nat.lt_of_lt_of_le hg HZ.out.size
            have hst := sumIn_step (L := L) hkn
            have hle := sumIn_le HS.out.good (k + 1)
            rw [hlen] at hle
            have CI := Lib.hid (inS2 (S4.out.below HZ.out) (mskE L)[k]! (by omega))
            have HI := Lib.hid (fun x hx => upto_in HP.out (q := (mskE L)[k]!) (x := x) hx)
            obtain ⟨q, hqe⟩ : ∃ q, q = (mskE L)[k]! := ⟨_, rfl⟩
            rw [← hqe] at m0 hpos hq hst CI HI
            have SR := Lib.hid (srt_inE HS.out.good.rise q)
            obtain ⟨I, hI⟩ : ∃ I, I = inE L q := ⟨_, rfl⟩
            rw [← hI] at hpos hst CI HI SR
            obtain ⟨s, hs⟩ : ∃ s, s = sumIn L ((mskE L).take k) := ⟨_, rfl⟩
            rw [← hs] at hst ⊢
            rw [hst] at hle
            have HST := Lib.hid hst
            clear hst hqe hI hs
            go_wp2_with fail
            refine CI.out.mono ?_
            rintro e w5 ⟨v5, rfl, hs5, hb5⟩
            have S5 := Lib.hid hs5.slN
            have CH := Lib.hid (rhandles_call I _ w5 hs5 (by omega))
            obtain ⟨p5, c5, rfl, hc5, hc5m, _⟩ := id hs5
            have hc52 : I.length ≤ 9223372036854775807 := by unfold maxLen at hc5m; omega
            have B5 := Lib.hid (Bt HZ.out hb5)
            rw [SR.out] at CH
            clear hs5 hb5 CI m0 hgr
            have hI0 : ¬ (I.length : Int) = 0 := by omega
            have hI1 : ¬ I = [] := fun e => by subst e; simp at hpos
            go_wp2_with fail
            refine CH.out.mono ?_
            rintro e w6 ⟨v6, rfl, ho6, _, hb6⟩
            have hs6 := row_sl lenH ho6 rfl
            have CS := Lib.hid (sameH_call I I _ _ w6 (S5.out.sl.below hb6) hs6)
            rw [show decide (I = I) = true from decide_eq_true rfl] at CS
            have B6 := Lib.hid hb6
            obtain ⟨p6, c6, rfl, _, _, _⟩ := id hs6
            clear hs6 ho6 hb6 CH
            go_wp2_with fail
            refine CS.out.mono ?_
            rintro e w7 ⟨rfl, hg7⟩
            have B7 := Lib.hid (Bt B6.out hg7.below)
            clear hg7 CS B6
            generalize hwr : wr = wd at *
            clear hwr wr
            go_wp2
            rw [show ((I.length : Int) == 0) = false from beq_eq_false_iff_ne.2 hI0]
            go_loopw [71] (fun s71 wr => ∃ (j : Nat), s71 = .int .i64 j ∧ j ≤ I.length ∧ Hid (RowKit.Below w5.heap.size w5 wr)) (fun i _ => I.length - (intOf i).toNat)
            case atStart => exact ⟨0, rfl, Nat.zero_le _, B7⟩
            case round =>
              obtain ⟨j, rfl, hj, HW⟩ := hrel
              by_cases hjn : j < I.length
              · have hjz : (j : Int) < (I.length : Int) := by omega
                have hm : I[j]! ∈ I := by rw [getElem!_pos I j hjn]; exact List.getElem_mem _
                obtain ⟨i, hi, hx, hmq⟩ := HI.out _ hm
                obtain ⟨p', c', e', _, _, hcell⟩ := S5.out
                simp only [Value.slice.injEq] at e'
                obtain ⟨rfl, _, rfl⟩ := e'
                obtain ⟨g5, o5, rfl, hg5, _, hcells⟩ := hcell (by omega)
                obtain ⟨a0, a1⟩ := atH hcells hjn
                rw [hx] at a0 a1
                dsimp only at a0 a1
                replace a0 := Bc HW.out hg5 a0
                replace a1 := Bc HW.out hg5 a1
                have hgr5 : g5 < wr.heap.size := Nat.lt_of_lt_of_le hg5 HW.out.size
                clear hcells hcell hm hx
                have hiz : (i : Int) < (l.length : Int) := by omega
                have hmem : l[i]! ∈ l := by rw [getElem!_pos l i hi]; exact List.getElem_mem _
                have hsl := HR.out _ hmem
                have hrt := HP.out.right hi
                have HB9 := Lib.hid (Bt (Bt B4.out B5.out) HW.out)
                obtain ⟨p', c', e', _, _, hcell⟩ := HV.out
                simp only [Value.slice.injEq] at e'
                obtain ⟨rfl, _, rfl⟩ := e'
                obtain ⟨g, o, rfl, hg, _, hcells⟩ := hcell (by omega)
                have v0 := Bc HB9.out hg (atRr hcells hi)
                have hgr : g < wr.heap.size := Nat.lt_of_lt_of_le hg HB9.out.size
                generalize l[i]! = y at *
                obtain ⟨yv, yr⟩ := y
                dsimp only at *
                have hlen : yr.length ≤ 100000 := by
                  have := rowL_len yr; rw [(right_row hrt).2] at this
                  omega
                have bA := Ba (Below.refl _ wr) (.cells #[.int .i64 (i : Int), .int .i64 1] 31)
                have CM := Lib.hid (rmask_call yr yv (wr.alloc (.cells #[.int .i64 (i : Int), .int .i64 1] 31)) (hsl.below (Bt HB9.out bA)) hrt.2 hlen)
                rw [hmq] at CM
                have BA := Lib.hid (Bt HW.out bA)
                clear hcells hcell hmem hsl bA
                go_wp2_with fail
                refine CM.out.mono ?_
                rintro e w8 ⟨rfl, hb8⟩
                have B8 := Lib.hid (Bt BA.out hb8)
                clear hb8 v0 hgr a0 a1 hgr5 CM
                go_wp2
                go_roundw
                case measure => simp [intOf]; omega
                case rel => exact ⟨j + 1, by go_num, by omega, B8⟩
              · go_wp2
                go_roundw
                case measure => simp [intOf]; omega
                case rel => exact ⟨k + 1, by rw [HST.out]; go_num, by go_num, by omega, Lib.hid (Bt B5.out HW.out)⟩
          · have hkk : k = (mskE L).length := by omega
            have hall := mskE_all HS.out.good
            have e9 : sumIn L ((mskE L).take k) = l.length := by rw [hkk, List.take_length, hall, hlen]
            rw [e9]
            go_wp2
            go_ret
            exact ⟨rfl, HBz.out⟩
end
end Go.Proofs.YthgkbmeilolapaaGreatDoor

/-
  Whatever rows it is given, TablesIn answers true and leaves its argument as it was. Conditions: the errors' variables that it names read as the program's text lays them (the card ties them to that text).
-/
namespace Go.Proofs.YthgkbmeilolapaaGreatDoor
set_option linter.unusedSimpArgs false
set_option linter.unusedVariables false
open Go.ChangeShapes Go.WideShapes Go.ChangeAt Go.RowKit Go.Joins

set_option maxRecDepth 100000 in
theorem tablesIn_lifted (os : Os) (started : os.Started) (H : Type) (enc : TypeId × Value → H) :
    ReturnsInHanded {} Tryz.checked os 8 .any (fun w args => (Rows.tablesInSpec.pre enc Tryz.prog Tryz.f8 [] false w args ∧ laidMetH Tryz.prog Rows.tablesInRow.laid w) ∧ sizedMet enc Tryz.prog Tryz.f8 (OpenSpec.ofChange Rows.tablesInSpec) false w args)
      (Rows.tablesInSpec.post enc Tryz.prog Tryz.f8 false true false false) := by
  refine returnsInHanded_of_change_and (C := Tryz.checked) (X := fun w _ => laidMetH Tryz.prog Rows.tablesInRow.laid w) (fun _ _ _ hh h => h.of_heap hh) own started (by kernel_rfl) Tryz.func8
    (ChangeSpec.witness_shaped (enc := enc) (C := Tryz.checked) (os := os) (X := fun w _ => laidMetH Tryz.prog Rows.tablesInRow.laid w) false (World.doorLaid Tryz.prog 220 os) #[.slice none 0 0] 8 rfl (World.shaped_of_RefB (by kernel_rfl) (by kernel_rfl)) (by kernel_rfl) (by kernel_rfl) (by kernel_rfl) (laidMetH_of_parts3 (fuel := 8) (laidMet_of_run' 8 (by kernel_rfl) (by kernel_rfl)) (by kernel_rfl) (by kernel_rfl))) ?_
  intro W base args ds gs before hval0 hW _ _ hL _
  have hval : ∀ (j : Nat) t v, Tryz.f8.params[j]? = some t → args[j]? = some v → Value.okWide Tryz.prog W .any base t v := hval0
  have hW' := hW
  obtain ⟨p, q, hA0, hV, rfl, hfz, hnd⟩ := hW
  have hA : DataW.TrodAll enc Tryz.prog W 0 (fun _ => true) true Tryz.f8.params.toList args.toList ds p := hA0
  rw [Tryz.params8] at hA hval
  obtain ⟨v0, vs0, d0, ds0, p0, q0, hargs, rfl, rfl, h0, r0⟩ := trodAll_cons hA
  obtain ⟨rfl, rfl, rfl⟩ := trodAll_nil r0
  obtain rfl : args = #[v0] := by cases args; simp_all
  obtain ⟨l0, hl0, hr0⟩ := open_rows (hval 0 60 v0 rfl rfl) h0
  clear hA0 hval0
  have hL' : laidMet Tryz.prog Rows.tablesInRow.laid W := by
    have h := hL
    rw [MakeChecks.laidMetH_plain _ _ _ (by kernel_rfl)] at h
    exact h
  have hT := tab_of hL'
  have hsh := shape_of (L := Rows.tablesInRow.laid.tail) (by kernel_rfl) (by
    intro x hx
    simp only [Rows.tablesInRow, List.tail_cons] at hx
    repeat (rcases List.mem_cons.1 hx with rfl | hx; · exact ⟨_, rfl⟩)
    exact absurd hx (by simp))
  obtain ⟨A, hE⟩ := errs_of (laid_tail2 hL') hsh (by simp [Rows.tablesInRow]) (by simp only [Rows.tablesInRow, List.tail_cons, errN]; decide)
  refine (tablesIn_walk l0 v0 W hl0 hr0 (er8_of hE) hT).mono fun e W' ⟨he, hb⟩ => ?_
  subst he
  exact ⟨_, rfl, law_post laidOut (by kernel_rfl) rfl (by kernel_rfl) Tryz.underlying4 (fun ds hd => by match ds, hd with | [_], _ => rfl) hW' hb⟩

theorem tablesIn_row : Rows.TablesInSaid :=
  OpenClaim.holds_of_wide 8 Tryz.f8 rfl rfl rfl rfl rfl rfl rfl ⟨rfl, rfl, rfl, rfl, rfl⟩ rfl rfl rfl rfl rfl (by kernel_rfl) Tryz.func8 (by kernel_rfl)
    (of_decide_eq_true (by kernel_rfl)) (by unfold Func.isWrapper; first | (rw [if_pos (by decide +kernel)]; kernel_rfl) | (rw [if_neg (by decide +kernel)]; exact ⟨rfl, rfl⟩))
    (fun os started H enc _ => tablesIn_lifted os started H enc)

theorem tablesIn_holds : Rows.TablesInCardSaid :=
  Claim7.holds_tied_plain_at .later [] Rows.tablesInCard.laidKinds true Rows.tablesInCard.stood.harness true
    tablesIn_row (fun _ h => by cases h) (by kernel_rfl) (fun _ h => by cases h) tablesIn_row_tie rfl ⟨rfl, rfl⟩ (by kernel_rfl) rfl
    (fun f fn hf hfn => by
      obtain rfl : f = 8 := Option.some.inj ((show Tryz.prog.funcNamed "paddock/paddocklaw08.TablesIn" = some 8 by kernel_rfl).symm.trans hf) |>.symm
      obtain rfl : fn = Tryz.f8 := (Option.some.inj (Tryz.func8.symm.trans hfn)).symm
      exact ⟨by kernel_rfl, fun j t ht => by
        rw [Tryz.params8] at ht
        have hm : t ∈ [60] := by
          have := Array.mem_of_getElem? ht
          simp at this ⊢
          omega
        have hall : ([60].all fun u => !Tryz.prog.wantsStandIn u) = true := by kernel_rfl
        exact (show Tryz.prog.wantsStandIn t = false by simpa using List.all_eq_true.1 hall t hm)⟩)
    (by kernel_rfl)
#print axioms tablesIn_holds
end Go.Proofs.YthgkbmeilolapaaGreatDoor
