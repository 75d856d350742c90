import Derived.Test.YtaehendpdfpibaaGreatDoorZ27
import Derived.Test.YtaehendpdfpibaaGreatDoorZ24
import Derived.Deep.RegionHeld3
import Derived.Test.YtaehendpdfpibaaGreatDoorZ13

/-
  The walk of QueryNarrows (written by mkq9.py).
-/
namespace Go.Proofs.YtaehendpdfpibaaGreatDoor
set_option linter.unusedSimpArgs false
set_option linter.unusedVariables false
open Go.RowKit Go.Sort Go.Lib Go.Shelf

section
variable {A : Nat → Addr}
set_option maxHeartbeats 8000000 in
set_option maxRecDepth 100000 in
theorem queryNarrows_walk (a b : Nat) (x : Int) (ha : a < 18446744073709551616) (hb : b < 18446744073709551616) (l : List Rr) (v : Value) (w : World) (hl : Sl encRr w v l) (hr : ∀ r ∈ l, Sl encV w r.1 r.2) (hE : Er8 w A) (hT : TabW w) :
    Calls Tryz.prog 7 #[qV a b, .int .i64 x, v] w fun e w' => e = .returned (.bool true) ∧ RowKit.Below w.heap.size w w' := by
  have bl : RowKit.Below w.heap.size w (w.alloc (qB a b)) := (by repeat (first | with_reducible exact Below.refl _ _ | with_reducible assumption | with_reducible apply Ba | with_reducible apply Bd | with_reducible apply Bn | with_reducible apply Bg | (with_reducible refine Bs ?_ (by first | (simp; done) | (simp; omega)) _) | (with_reducible refine Bt ?_ (by assumption)) | (with_reducible refine Bt ?_ (Gr.below (by assumption)))))
  have BL := Lib.hid bl
  have X0 := Lib.hid (show (w.alloc (qB a b)).heap[w.heap.size]? = some (.cells #[.int .u64 (a : Int), .int .u64 (b : Int)] 62 (0, 0)) from heap_alloc_new w (qB a b))
  have C0 := Lib.hid (alive9_any (w.alloc (qB a b)) (A 4) (hE.below bl).e7.er.kind)
  have HRw := Lib.hid (show ∀ W, RowKit.Below w.heap.size w W → ∀ r ∈ l, Sl encV W r.1 r.2 from fun W hb r h => (hr r h).below hb)
  have HV := Lib.hid (show ∀ W, RowKit.Below w.heap.size w W → Sl encRr W v l from fun W hb => hl.below hb)
  have CF : Hid (∀ W, RowKit.Below w.heap.size w W → Calls Tryz.prog 21 #[v] W fun e w' => RowKit.Below W.heap.size W w' ∧
        ((e = .returned (.tuple #[.pointer none, .pointer none, .bool false]) ∧ (40 < l.length ∨ bigR l = true)) ∨
         ∃ ps pr L, e = .returned (.tuple #[psP ps, rsP pr, .bool true]) ∧ l.length ≤ 40 ∧ bigR l = false ∧ TwoS W.heap.size w' ps pr L)) := fun W hb => filled_call l v W (HV.out W hb) (HRw.out W hb) (hE.below hb) (hT.below hb)
  have CL : Hid (∀ W, RowKit.Below w.heap.size w W → Calls Tryz.prog 22 #[v] W fun e w' => e = .returned (.bool (bigR l)) ∧ RowKit.Below W.heap.size W w') := fun W hb => long_call l v W (HV.out W hb) (HRw.out W hb)
  have HA := Lib.hid (show ∀ W, RowKit.Below w.heap.size w W → Era W.heap.size W A from fun W hb => Era.of (hE.below hb) (hT.below hb) (Nat.le_refl _))
  have HE := Lib.hid hE
  obtain ⟨pv, cv, rfl, hcv, hcm, _⟩ := hl
  have hcv2 : l.length ≤ 9223372036854775807 := by unfold maxLen at hcm; omega
  clear hE hT hr bl HRw HV hcm
  go_enter Tryz.func7, Tryz.ntmps7
  go_wp2_with fail
  generalize hW : w.alloc (qB a b) = W0 at *
  clear hW
  refine C0.out.mono ?_
  rintro e w1 ⟨rfl, hb1⟩
  have B1 := Lib.hid (Bt BL.out hb1)
  have Y0 := Lib.hid (blk_below X0.out hb1)
  obtain ⟨q0, r0, _, _⟩ := two_cells (Y0.out)
  have hq0 := cell_lt q0
  clear hb1 C0
  go_wp2_with fail
  refine (CF.out w1 B1.out).mono ?_
  rintro e w2 ⟨hb2, hc⟩
  have B2 := Lib.hid (Bt B1.out hb2)
  have Z0 := Lib.hid (blk_below Y0.out hb2)
  obtain ⟨q0, r0, _, _⟩ := two_cells (Z0.out)
  have hq0 := cell_lt q0
  clear CF
  rcases hc with ⟨rfl, hbig⟩ | ⟨ps, pr, L, rfl, hl40, hnb, hTW⟩
  · by_cases h40 : 40 < l.length
    · have h40' : (l.length : Int) > 40 := by omega
      clear hbig hb2
      go_wp2
      go_ret
      exact ⟨rfl, B2.out⟩
    · have h40' : ¬ (l.length : Int) > 40 := by omega
      have CL2 := Lib.hid (CL.out w2 B2.out)
      rw [hbig.resolve_left h40] at CL2
      clear hbig hb2
      go_wp2_with fail
      refine CL2.out.mono ?_
      rintro e w3 ⟨rfl, hb3⟩
      have B3 := Lib.hid (Bt B2.out hb3)
      clear hb3 CL2
      go_wp2
      go_ret
      exact ⟨rfl, B3.out⟩
  · obtain ⟨N, M, hS, hRS, hMN⟩ := hTW
    have S2 := Lib.hid hS
    have R2 := Lib.hid hRS
    have HG := Lib.hid hS.good
    have A2 := Lib.hid ((HA.out w1 B1.out).below hb2)
    clear hS hRS hMN hb2 hnb CL
    obtain ⟨m, hm, he⟩ := idx_any x 10 (by decide) (by decide)
    have hA1 : IntKind.i64.wrap ((IntKind.u64.wrap x).tmod 10) = (m : Int) := by
      have he9 := he
      change wrap64 ((IntKind.u64.wrap x).tmod 10) = (m : Int) at he9
      generalize (IntKind.u64.wrap x).tmod 10 = t at he9 ⊢
      rw [IntKind.wrap_i64]
      unfold wrap64 at he9
      exact he9
    change wrap64 ((IntKind.u64.wrap x).tmod 10) = (m : Int) at he
    have hm9 : ((m : Nat) : Int) = (m : Int) := rfl
    have hX : a ||| 2 ^ m < 18446744073709551616 := Nat.or_lt_two_pow (n := 64) ha (Nat.lt_of_lt_of_le (Nat.pow_lt_pow_right (by decide) hm) (by decide))
    have hkb : [(m : Int)].all kindB = true := by
      have : kindB (m : Int) = true := (kindB_iff _).2 ⟨by omega, by omega⟩
      simp [this]
    have bA := Ba (Below.refl _ w2) (.cells #[.int .i64 (m : Int)] 3)
    have SA := Lib.hid (sl_lit (enc := encI) (w := w2) (cs := #[.int .i64 (m : Int)]) (t := 3) (b := w2.heap.size) [(m : Int)] rfl rfl (by unfold maxLen; simp))
    have C1 := Lib.hid (with_call a [(m : Int)] _ (A 4) _ SA.out ha (HE.out.below (Bt B2.out bA)).e7.er.kind)
    rw [resK_yes hkb, more_kind] at C1
    have HMORE := Lib.hid (show ∀ i, i < (ansE L (a ||| 2 ^ m) b).length → (ansE L (a ||| 2 ^ m) b)[i]!.1 ∈ hds (ansE L a b) from fun i hi => ans_more hi)
    have HHX := Lib.hid (show ∀ k, k < (ansE L (a ||| 2 ^ m) b).length → (hds (ansE L (a ||| 2 ^ m) b))[k]! = (ansE L (a ||| 2 ^ m) b)[k]!.1 from fun k hk => hds_at9 hk)
    have hHL := hds_len9 (ansE L (a ||| 2 ^ m) b)
    have hLA := hds_len9 (ansE L a b)
    have h128 := Nat.le_trans (len_ans L (a ||| 2 ^ m) b) HG.out.len
    have CH1 : Hid (∀ W, RowKit.Below w2.heap.size w2 W → Calls Tryz.prog 24 #[qV a b, psP ps] W fun e w' => ∃ v, e = .returned v ∧ Sl encH w' v (hds (ansE L a b)) ∧ RowKit.Below W.heap.size W w') := fun W hb9 => qhandles (S2.out.below hb9) _ _ ha hb
    have CH2 : Hid (∀ W, RowKit.Below w2.heap.size w2 W → Calls Tryz.prog 24 #[qV (a ||| 2 ^ m) b, psP ps] W fun e w' => ∃ v, e = .returned v ∧ Sl encH w' v (hds (ansE L (a ||| 2 ^ m) b)) ∧ RowKit.Below W.heap.size W w') := fun W hb9 => qhandles (S2.out.below hb9) _ _ hX hb
    have CC : Hid (∀ W, RowKit.Below w2.heap.size w2 W → Calls Tryz.prog 27 #[qV a b, psP ps] W fun e w' => e = .returned (.int .i64 (hds (ansE L a b)).length) ∧ RowKit.Below W.heap.size W w') := fun W hb9 => by rw [hLA]; exact qcount (S2.out.below hb9) a b ha hb
    generalize hds (ansE L a b) = LA at *
    generalize hH : hds (ansE L (a ||| 2 ^ m) b) = H at *
    generalize ansE L (a ||| 2 ^ m) b = XX at *
    generalize a ||| 2 ^ m = X at *
    clear hX hkb bA SA S2 A2 R2 HG hLA ha hb hH
    go_wp2_with fail
    refine C1.out.mono ?_
    rintro e w3 ⟨rfl, hg3⟩
    have B3 := Lib.hid (Bt (Ba (Below.refl _ w2) (.cells #[.int .i64 (m : Int)] 3)) hg3.below)
    clear q0 r0 hq0
    obtain ⟨q0, r0, _, _⟩ := two_cells (blk_below Z0.out B3.out)
    have hq0 := cell_lt q0
    have C2 := Lib.hid (CH1.out w3 B3.out)
    clear hg3 C1 hm he hA1 hm9
    go_wp2_with fail
    refine C2.out.mono ?_
    rintro e w4 ⟨v4, rfl, hs4, hb4⟩
    have B4 := Lib.hid (Bt B3.out hb4)
    have S4 := Lib.hid hs4
    clear q0 r0 hq0
    obtain ⟨q0, r0, _, _⟩ := two_cells (blk_below Z0.out B4.out)
    have hq0 := cell_lt q0
    obtain ⟨p4, c4, rfl, _, _, _⟩ := id hs4
    have C3 := Lib.hid (CH2.out w4 B4.out)
    clear hs4 hb4 C2
    go_wp2_with fail
    refine C3.out.mono ?_
    rintro e w5 ⟨v5, rfl, hs5, hb5⟩
    have B5 := Lib.hid (Bt B4.out hb5)
    have S5 := Lib.hid (S4.out.below hb5)
    have Z5 := Lib.hid (blk_below Z0.out B5.out)
    obtain ⟨p5, c5, rfl, hc5, hc6, hp5⟩ := hs5
    have HP5 := Lib.hid hp5
    rw [hHL] at hc5
    rw [hHL]
    have hn2 : XX.length ≤ 9223372036854775807 := by omega
    clear hb5 C3 hp5 hc6 q0 r0 hq0
    go_wp2
    go_loopw [55] (fun s55 wr => ∃ k : Nat, s55 = .int .i64 k ∧ k ≤ XX.length ∧ Hid (RowKit.Below w5.heap.size w5 wr)) (fun i _ => XX.length - (intOf i).toNat)
    case atStart => exact ⟨0, rfl, Nat.zero_le _, Lib.hid (Below.refl _ _)⟩
    case round =>
      obtain ⟨k, rfl, hk, HB⟩ := hrel
      by_cases hkn : k < XX.length
      · have hkz : (k : Int) < (XX.length : Int) := by omega
        obtain ⟨g1, o1, rfl, hg1, hcells⟩ := HP5.out (by omega)
        have d1 : w5.cell? ⟨g1, o1 + k * 2, none⟩ = some (.int .i64 H[k]!.1) := sl_at lenH hcells (show k < H.length by omega) 0 _ rfl
        have d2 : w5.cell? ⟨g1, o1 + k * 2 + 1, none⟩ = some (.int .i64 H[k]!.2) := sl_at lenH hcells (show k < H.length by omega) 1 _ rfl
        rw [HHX.out k hkn] at d1 d2
        have hin := HMORE.out k hkn
        replace d1 := Bc HB.out hg1 d1
        replace d2 := Bc HB.out hg1 d2
        have hgr : g1 < wr.heap.size := Nat.lt_of_lt_of_le hg1 HB.out.size
        generalize XX[k]! = y at *
        obtain ⟨⟨y1, y2⟩, yl⟩ := y
        dsimp only at d1 d2 hin
        have bA := Ba (Below.refl _ wr) (.cells #[.int .i64 y1, .int .i64 y2] 31)
        have BA := Lib.hid (Bt HB.out bA)
        have CHs := Lib.hid (has_call LA _ y1 y2 (wr.alloc (.cells #[.int .i64 y1, .int .i64 y2] 31)) (S5.out.below BA.out))
        rw [decide_eq_true hin] at CHs
        clear hin hcells bA
        go_wp2_with fail
        refine CHs.out.mono ?_
        rintro e w6 ⟨rfl, hg6⟩
        have B6 := Lib.hid (Bt BA.out hg6.below)
        clear hg6 CHs d1 d2 hgr
        go_wp2
        go_roundw
        case measure => simp [intOf]; omega
        case rel => exact ⟨k + 1, by go_num, by omega, B6⟩
      · have CC2 := Lib.hid (CC.out wr (Bt B5.out HB.out))
        obtain ⟨q0, r0, _, _⟩ := two_cells (blk_below Z5.out HB.out)
        have hq0 := cell_lt q0
        go_wp2_with fail
        refine CC2.out.mono ?_
        rintro e w7 ⟨rfl, hb7⟩
        have B7 := Lib.hid (Bt B2.out (Bt B5.out (Bt HB.out hb7)))
        clear hb7
        go_wp2
        go_ret
        exact ⟨by simp, B7.out⟩
end
end Go.Proofs.YtaehendpdfpibaaGreatDoor

/-
  Whatever query, number and rows it is given, QueryNarrows answers true and leaves its arguments as they were. Conditions: the errors' variables that it names read as the program's text lays them (the card ties them to that text).
-/
namespace Go.Proofs.YtaehendpdfpibaaGreatDoor
set_option linter.unusedSimpArgs false
set_option linter.unusedVariables false
open Go.ChangeShapes Go.WideShapes Go.ChangeAt Go.RowKit Go.Joins

set_option maxRecDepth 100000 in
theorem queryNarrows_lifted (os : Os) (started : os.Started) (H : Type) (enc : TypeId × Value → H) :
    ReturnsInHanded {} Tryz.checked os 7 .any (fun w args => (Rows.queryNarrowsSpec.pre enc Tryz.prog Tryz.f7 [] false w args ∧ laidMetH Tryz.prog Rows.queryNarrowsRow.laid w) ∧ sizedMet enc Tryz.prog Tryz.f7 (OpenSpec.ofChange Rows.queryNarrowsSpec) false w args)
      (Rows.queryNarrowsSpec.post enc Tryz.prog Tryz.f7 false true false false) := by
  refine returnsInHanded_of_change_and (C := Tryz.checked) (X := fun w _ => laidMetH Tryz.prog Rows.queryNarrowsRow.laid w) (fun _ _ _ hh h => h.of_heap hh) own started (by kernel_rfl) Tryz.func7
    (ChangeSpec.witness_shaped (enc := enc) (C := Tryz.checked) (os := os) (X := fun w _ => laidMetH Tryz.prog Rows.queryNarrowsRow.laid w) false (World.doorLaid Tryz.prog 247 os) #[.agg #[.int .u64 0, .int .u64 0], .int .i64 0, .slice none 0 0] 8 rfl (World.shaped_of_RefB (by kernel_rfl) (by kernel_rfl)) (by kernel_rfl) (by kernel_rfl) (by kernel_rfl) (laidMetH_of_parts3 (fuel := 8) (laidMet_of_run' 8 (by kernel_rfl) (by kernel_rfl)) (by kernel_rfl) (by kernel_rfl))) ?_
  intro W base args ds gs before hval0 hW _ _ hL _
  have hval : ∀ (j : Nat) t v, Tryz.f7.params[j]? = some t → args[j]? = some v → Value.okWide Tryz.prog W .any base t v := hval0
  have hW' := hW
  obtain ⟨p, q, hA0, hV, rfl, hfz, hnd⟩ := hW
  have hA : DataW.TrodAll enc Tryz.prog W 0 (fun _ => true) true Tryz.f7.params.toList args.toList ds p := hA0
  rw [Tryz.params7] at hA hval
  obtain ⟨v0, vs0, d0, ds0, p0, q0, hargs, rfl, rfl, h0, r0⟩ := trodAll_cons hA
  obtain ⟨v1, vs1, d1, ds1, p1, q1, rfl, rfl, rfl, h1, r1⟩ := trodAll_cons r0
  obtain ⟨v2, vs2, d2, ds2, p2, q2, rfl, rfl, rfl, h2, r2⟩ := trodAll_cons r1
  obtain ⟨rfl, rfl, rfl⟩ := trodAll_nil r2
  obtain rfl : args = #[v0, v1, v2] := by cases args; simp_all
  obtain ⟨x0, y0, rfl, w0, u0⟩ := open_query (hval 0 62 v0 rfl rfl) h0
  obtain ⟨x1, rfl, rfl, rfl, w1⟩ := open_int Tryz.underlying3 (hval 1 3 v1 rfl rfl) h1
  obtain ⟨l2, hl2, hr2⟩ := open_rows (hval 2 53 v2 rfl rfl) h2
  clear hA0 hval0
  have hL' : laidMet Tryz.prog Rows.queryNarrowsRow.laid W := by
    have h := hL
    rw [MakeChecks.laidMetH_plain _ _ _ (by kernel_rfl)] at h
    exact h
  have hT := tab_of hL'
  obtain ⟨A, hE⟩ := er8_list hL' (.tail _ (.head _)) (.tail _ (.tail _ (.head _))) (.tail _ (.tail _ (.tail _ (.head _)))) (.tail _ (.tail _ (.tail _ (.tail _ (.head _))))) (.tail _ (.tail _ (.tail _ (.tail _ (.tail _ (.head _)))))) (.tail _ (.tail _ (.tail _ (.tail _ (.tail _ (.tail _ (.head _)))))))
  refine (queryNarrows_walk x0 y0 x1 w0 u0 l2 v2 W hl2 hr2 hE hT).mono fun e W' ⟨he, hb⟩ => ?_
  subst he
  exact ⟨_, rfl, law_post laidOut (by kernel_rfl) rfl (by kernel_rfl) Tryz.underlying4 (fun ds hd => by match ds, hd with | [_, _, _], _ => rfl) hW' hb⟩

theorem queryNarrows_row : Rows.QueryNarrowsSaid :=
  OpenClaim.holds_of_wide 7 Tryz.f7 rfl rfl rfl rfl rfl rfl rfl ⟨rfl, rfl, rfl, rfl, rfl⟩ rfl rfl rfl rfl rfl (by kernel_rfl) Tryz.func7 (by kernel_rfl)
    (of_decide_eq_true (by kernel_rfl)) (by unfold Func.isWrapper; first | (rw [if_pos (by decide +kernel)]; kernel_rfl) | (rw [if_neg (by decide +kernel)]; exact ⟨rfl, rfl⟩))
    (fun os started H enc _ => queryNarrows_lifted os started H enc)

theorem queryNarrows_holds : Rows.QueryNarrowsCardSaid :=
  Claim7.holds_tied_plain_at .later [] Rows.queryNarrowsCard.laidKinds true Rows.queryNarrowsCard.stood.harness true
    queryNarrows_row (fun _ h => by cases h) (by kernel_rfl) (fun _ h => by cases h) queryNarrows_row_tie rfl ⟨rfl, rfl⟩ (by kernel_rfl) rfl
    (fun f fn hf hfn => by
      obtain rfl : f = 7 := Option.some.inj ((show Tryz.prog.funcNamed "paddock/paddocklaw09.QueryNarrows" = some 7 by kernel_rfl).symm.trans hf) |>.symm
      obtain rfl : fn = Tryz.f7 := (Option.some.inj (Tryz.func7.symm.trans hfn)).symm
      exact ⟨by kernel_rfl, fun j t ht => by
        rw [Tryz.params7] at ht
        have hm : t ∈ [62, 3, 53] := by
          have := Array.mem_of_getElem? ht
          simp at this ⊢
          omega
        have hall : ([62, 3, 53].all fun u => !Tryz.prog.wantsStandIn u) = true := by kernel_rfl
        exact (show Tryz.prog.wantsStandIn t = false by simpa using List.all_eq_true.1 hall t hm)⟩)
    (by kernel_rfl)
#print axioms queryNarrows_holds
end Go.Proofs.YtaehendpdfpibaaGreatDoor
