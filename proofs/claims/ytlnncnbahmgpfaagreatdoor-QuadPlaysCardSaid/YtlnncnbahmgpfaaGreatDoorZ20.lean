import Derived.Test.YtlnncnbahmgpfaaGreatDoorZ21
import Derived.Test.YtlnncnbahmgpfaaGreatDoorZ29
import Derived.Test.YtlnncnbahmgpfaaGreatDoorZ43
import Derived.Deep.RegionHeld3

/-
  The walk of holds: a tree against the reference's boxes.
-/
namespace Go.Proofs.YtlnncnbahmgpfaaGreatDoor
set_option linter.unusedSimpArgs false
set_option linter.unusedVariables false
open Go.RowKit Go.Sort Go.Lib Go.Shelf

def hasB (B : List Bxd) (h : Hd) (k : Nat) : Bool := (B.take k).any fun b => decide (b.1 = h)
theorem hasB_step {B : List Bxd} {k : Nat} (hk : k < B.length) (h : Hd) : hasB B h (k + 1) = (hasB B h k || decide (B[k]!.1 = h)) := by
  unfold hasB
  rw [List.take_succ_eq_append_getElem hk, List.any_append, getElem!_pos B k hk]
  simp
theorem hasB_end (B : List Bxd) (h : Hd) : hasB B h B.length = (boxF B h).isSome := by
  unfold hasB
  rw [List.take_length]
  cases hq : boxF B h with
  | none =>
    have := boxF_none.1 hq
    simp only [Option.isSome_none]
    rw [List.any_eq_false]
    intro b hb
    simpa using this b hb
  | some x =>
    simp only [Option.isSome_some]
    rw [List.any_eq_true]
    exact ⟨(h, x), boxF_some hq, by simp⟩
theorem hds_take {B : List Bxd} {k : Nat} (hk : k < B.length) : (B.take (k + 1)).map (·.1) = (B.take k).map (·.1) ++ [B[k]!.1] := by
  rw [List.take_succ_eq_append_getElem hk, List.map_append, getElem!_pos B k hk]
  rfl
set_option maxHeartbeats 4000000 in
set_option maxRecDepth 100000 in
theorem holds_call {w : World} {M : Nat → Prop} {pt : Nat} {B : List Bxd} (hp : TrAt w M pt B) (hoB : OnceB B) (hok : ∀ b ∈ B, HdOk b.1) (v : Value) (hl : Sl encBx w v B) (hn : B.length ≤ 100) (h1 h2 : Int) (hx : HdOk (h1, h2)) :
    Calls Tryz.prog 17 #[.pointer (some ⟨pt, 0, none⟩), v, .agg #[.int .i64 h1, .int .i64 h2]] w fun e w' => e = .returned (.bool true) ∧ RowKit.Below w.heap.size w w' := by
  have HP := Lib.hid (fun w' (hb : RowKit.Below w.heap.size w w') => (fr_tr pt B).below hp hb)
  have RN := Lib.hid (fun w' (hb : RowKit.Below w.heap.size w w') => rNodes_call B v w' (hl.below hb) hn)
  obtain ⟨p0, c0, rfl, v1, v2, v3⟩ := hl
  unfold maxLen at v2
  have HV := Lib.hid v3
  have HOB := Lib.hid hoB
  have HOK := Lib.hid hok
  have hz : (B.length : Int) ≤ 100 := by omega
  have gb := gdB_run
  have gh := gdH_run
  clear v3 hp hoB hok
  obtain ⟨w1, hw1⟩ : ∃ w1, w1 = w.alloc (.cells #[.int .i64 h1, .int .i64 h2] 28) := ⟨_, rfl⟩
  have H1 : Hid ((w1.cell? ⟨w.heap.size, 0, none⟩ = some (.int .i64 h1) ∧ w1.cell? ⟨w.heap.size, 1, none⟩ = some (.int .i64 h2)) ∧ w.heap.size < w1.heap.size ∧ RowKit.Below w.heap.size w w1) := by rw [hw1]; exact ⟨⟨by simp, by simp⟩, by simp, Ba (Below.refl _ _) _⟩
  have HW := Lib.hid hw1
  clear hw1
  go_enter Tryz.func17, Tryz.ntmps17
  go_wp2
  go_loopw [7, 8, 21] (fun va s8 u wr => ∃ k : Nat, u = .int .i64 k ∧ k ≤ B.length ∧ s8 = .bool (hasB B (h1, h2) k) ∧ RowKit.Below w1.heap.size w1 wr ∧ wr.ownsRow w1.heap.size 28 2 va ((B.take k).map (·.1)).length (flat encH ((B.take k).map (·.1)))) (fun _ _ u _ => B.length - (intOf u).toNat)
  case atStart => rw [← HW.out, ← show w1.heap.size = w.heap.size + 1 by rw [HW.out]; simp]; exact ⟨0, rfl, Nat.zero_le _, rfl, Ba (Below.refl _ _) _, World.ownsRow_made w1 #[] 0 (Nat.le_refl _) (Nat.zero_le _) (by simp)⟩
  case round =>
    obtain ⟨k, rfl, hk, rfl, hb, ho⟩ := hrel
    have HO := Lib.hid ho
    have HB := Lib.hid hb
    clear ho hb
    by_cases hkn : k < B.length
    · obtain ⟨g0, o0, rfl, hg1, hg2⟩ := HV.out (by omega)
      obtain ⟨c1, c2, c3, c4, c5, c6⟩ := atBx hg2 hkn
      replace c1 := Bc (Bt H1.out.2.2 HB.out) hg1 c1
      replace c2 := Bc (Bt H1.out.2.2 HB.out) hg1 c2
      replace c3 := Bc (Bt H1.out.2.2 HB.out) hg1 c3
      replace c4 := Bc (Bt H1.out.2.2 HB.out) hg1 c4
      replace c5 := Bc (Bt H1.out.2.2 HB.out) hg1 c5
      replace c6 := Bc (Bt H1.out.2.2 HB.out) hg1 c6
      have hmem : B[k]! ∈ B := by rw [getElem!_pos B k hkn]; exact List.getElem_mem hkn
      have hxk := HOK.out _ hmem
      have HST := Lib.hid (hds_take hkn)
      have H8 := Lib.hid (hasB_step hkn (h1, h2))
      have hlen : ((B.take k).map (·.1)).length ≤ 100 := by rw [List.length_map]; have := List.length_take_le' k B; omega
      have hbf : boxF B B[k]!.1 = some B[k]!.2 := boxF_mem HOB.out hmem
      generalize B[k]! = x at *
      obtain ⟨⟨x1, x2⟩, x3, x4, x5, x6⟩ := x
      dsimp only at c1 c2 c3 c4 c5 c6 hxk hbf
      have BX := Lib.hid (fun w' (hb : RowKit.Below w.heap.size w w') => boxT_call (HP.out w' hb) x1 x2 hxk)
      rw [hbf] at BX
      simp only [Option.getD_some, Option.isSome_some] at BX
      have nB := fun W => neB_run (x3, x4, x5, x6) (x3, x4, x5, x6) W
      unfold bxV at nB
      simp only [decide_true, Bool.not_true] at nB
      have eH := fun W => eqH_run x1 x2 h1 h2 W
      generalize decide (((x1, x2) : Hd) = (h1, h2)) = q at *
      generalize hasB B (h1, h2) k = tj at *
      have hnb : ¬ u7.ownBlock = some wr.heap.size := fun e => by have := row_lt HO.out e; omega
      have bA := Ba (Below.refl _ wr) (.cells #[.int .i64 x1, .int .i64 x2, .int .i64 x3, .int .i64 x4, .int .i64 x5, .int .i64 x6] 43)
      have HXC := Lib.hid (cells6 (heap_alloc_new wr (.cells #[.int .i64 x1, .int .i64 x2, .int .i64 x3, .int .i64 x4, .int .i64 x5, .int .i64 x6] 43)))
      have hxl : wr.heap.size < (wr.alloc (.cells #[.int .i64 x1, .int .i64 x2, .int .i64 x3, .int .i64 x4, .int .i64 x5, .int .i64 x6] 43)).heap.size := by simp
      have HBA := Lib.hid (Bt HB.out bA)
      have HOA := Lib.hid (row_below HO.out bA)
      clear hg2 hbf hmem hxk bA HO HB
      go_wp2_with fail
      refine (BX.out _ (Bt H1.out.2.2 HBA.out)).mono ?_
      rintro e w2 ⟨rfl, hb2⟩
      have bB := Bt hb2 (Ba (Below.refl _ w2) (.cells #[.int .i64 x3, .int .i64 x4, .int .i64 x5, .int .i64 x6] 30))
      have z1 := Bc bB hxl HXC.out.1
      have z2 := Bc bB hxl HXC.out.2.1
      have z3 := Bc bB hxl HXC.out.2.2.1
      have z4 := Bc bB hxl HXC.out.2.2.2.1
      have z5 := Bc bB hxl HXC.out.2.2.2.2.1
      have z6 := Bc bB hxl HXC.out.2.2.2.2.2
      have hzl := cell_lt z1
      have HBB := Lib.hid (Bt HBA.out bB)
      have HOB2 := Lib.hid (row_below HOA.out bB)
      have HZ := Lib.hid (And.intro z1 z2)
      have HZC := Lib.hid (And.intro z3 (And.intro z4 (And.intro z5 z6)))
      have bX := Ba (Below.refl _ (w2.alloc (.cells #[.int .i64 x3, .int .i64 x4, .int .i64 x5, .int .i64 x6] 30))) (.cells #[.int .i64 x1, .int .i64 x2] 28)
      have O5 := Lib.hid (row_below HOB2.out bX)
      have B5 := Lib.hid (Bt HBB.out bX)
      have L5 := Lib.hid (sl_lit (enc := encH) (w := w2.alloc (.cells #[.int .i64 x3, .int .i64 x4, .int .i64 x5, .int .i64 x6] 30)) (cs := #[.int .i64 x1, .int .i64 x2]) (t := 28) (b := (w2.alloc (.cells #[.int .i64 x3, .int .i64 x4, .int .i64 x5, .int .i64 x6] 30)).heap.size) [(x1, x2)] rfl rfl (by unfold maxLen; simp))
      rw [show (w2.alloc (.cells #[.int .i64 x3, .int .i64 x4, .int .i64 x5, .int .i64 x6] 30)).heap.size = w2.heap.size + 1 by simp] at L5
      have HZ5 := Lib.hid (And.intro (Bc bX hzl z1) (Bc bX hzl z2))
      have hzl5 := Bl bX hzl
      have HBX2 := Lib.hid (show RowKit.Below w1.heap.size w1 (w2.alloc (.cells #[.int .i64 x3, .int .i64 x4, .int .i64 x5, .int .i64 x6] 30)) from HBB.out)
      clear hb2 bB bX HOA HBA HXC hxl BX HOB2
      have HNB := Lib.hid hnb
      clear z1 z2 z3 z4 z5 z6 hnb
      obtain ⟨z1, z2⟩ := HZ.out
      have hz1 := cell_lt z1
      obtain ⟨y3, y4, y5, y6⟩ := HZC.out
      cases tj
      case' false => cases q
      all_goals
        go_wp2_with (at_builtin; refine wpl_app2 apH rfl _ _ rfl w1.heap.size (by rfl) (by rfl) O5.out rfl L5.out (by simp; omega) B5.out.size ?_; intro v7 w7 hown7 hgrow7 hat7 hnil7; have O7 := Lib.hid hown7; have B7 := Lib.hid (grownB B5.out O5.out hgrow7); have T7 := Lib.hid (Tch.grown (M := fun b => u7.ownBlock = some b) hgrow7 (fun g e => e)); clear hown7 hgrow7 hat7 hnil7 z1 z2 hz1 y3 y4 y5 y6; have z1 := T7.out.cell hzl5 HNB.out HZ5.out.1; have z2 := T7.out.cell hzl5 HNB.out HZ5.out.2; have a1 := Bc B7.out H1.out.2.1 H1.out.1.1; have a2 := Bc B7.out H1.out.2.1 H1.out.1.2; have hz7 := cell_lt z1; have ha7 := cell_lt a1)
        go_roundw
        case measure => simp only [intOf]; omega
        case rel => exact ⟨k + 1, by go_num, by omega, by rw [H8.out]; simp, B7.out, by rw [HST.out]; exact O7.out⟩
    · have hin : k = B.length := by omega
      subst hin
      rw [hasB_end]
      have HO2 := Lib.hid HO.out
      rw [List.take_length] at HO2
      have RH := Lib.hid (fun (v : Value) (w' : World) (h : Sl encH w' v (B.map (·.1))) => rhandles_call (B.map (·.1)) v w' h (by rw [List.length_map]; omega))
      have BW := Lib.hid (Bt H1.out.2.2 HB.out)
      have BX := Lib.hid (fun w' (hb : RowKit.Below w.heap.size w w') => boxT_call (HP.out w' hb) h1 h2 hx)
      have NT := Lib.hid (fun w' (hb : RowKit.Below w.heap.size w w') => nodesT_call (HP.out w' hb) (by omega))
      have LT := Lib.hid (fun w' (hb : RowKit.Below w.heap.size w w') => lenT_call (HP.out w' hb))
      have HT := Lib.hid (fun w' (hb : RowKit.Below w.heap.size w w') => hdsT_call (HP.out w' hb) (by omega))
      have a1 := Bc HB.out H1.out.2.1 H1.out.1.1
      have a2 := Bc HB.out H1.out.2.1 H1.out.1.2
      have ha := cell_lt a1
      obtain ⟨p7, c7, hv7, _, _, _⟩ := row_val HO2.out
      rw [List.length_map] at hv7
      subst hv7
      have HRH := Lib.hid (row_sl lenH HO2.out rfl)
      clear HO HO2 HB HV HP
      have nB := fun W => neB_run (0, 0, 0, 0) (0, 0, 0, 0) W
      unfold bxV at nB
      simp only [decide_true, Bool.not_true] at nB
      cases hq : boxF B (h1, h2)
      case none =>
        rw [hq] at BX
        simp only [Option.getD_none, Option.isSome_none] at BX ⊢
        go_wp2_with fail
        refine (BX.out _ BW.out).mono ?_
        rintro e w2 ⟨rfl, hb2⟩
        have B2 := Lib.hid (Ba (Bt BW.out hb2) (.cells #[.int .i64 0, .int .i64 0, .int .i64 0, .int .i64 0] 30))
        have HM := Lib.hid (cells4 (heap_alloc_new w2 (.cells #[.int .i64 0, .int .i64 0, .int .i64 0, .int .i64 0] 30)))
        have hm2 : w2.heap.size < (w2.alloc (.cells #[.int .i64 0, .int .i64 0, .int .i64 0, .int .i64 0] 30)).heap.size := by simp
        have HR2 := Lib.hid (HRH.out.below (Ba hb2 (.cells #[.int .i64 0, .int .i64 0, .int .i64 0, .int .i64 0] 30)))
        clear hb2 BX BW HRH
        go_wp2_with fail
        refine (NT.out _ B2.out).mono ?_
        rintro e w3 ⟨v3, rfl, hs3, hb3⟩
        have B3 := Lib.hid (Bt B2.out hb3)
        have HM3 := Lib.hid (And.intro (Bc hb3 hm2 HM.out.1) (And.intro (Bc hb3 hm2 HM.out.2.1) (And.intro (Bc hb3 hm2 HM.out.2.2.1) (Bc hb3 hm2 HM.out.2.2.2))))
        have hm3 := Bl hb3 hm2
        have HR3 := Lib.hid (HR2.out.below hb3)
        have HS3 := Lib.hid hs3
        obtain ⟨p3, c3, rfl, n1, n2, _⟩ := hs3
        unfold maxLen at n2
        clear hb3 NT B2 HM hm2 HR2
        go_wp2_with fail
        refine (RN.out _ B3.out).mono ?_
        rintro e w4 ⟨v4, rfl, ho4, hb4⟩
        have B4 := Lib.hid (Bt B3.out hb4)
        have z1 := Bc hb4 hm3 HM3.out.1
        have z2 := Bc hb4 hm3 HM3.out.2.1
        have z3 := Bc hb4 hm3 HM3.out.2.2.1
        have z4 := Bc hb4 hm3 HM3.out.2.2.2
        have hm4 := cell_lt z1
        have HR4 := Lib.hid (HR3.out.below hb4)
        have HS4 := Lib.hid (HS3.out.below hb4)
        have HT4 := Lib.hid (row_sl lenC ho4 rfl)
        obtain ⟨p4, c4, rfl, t1, t2, _⟩ := row_val ho4
        unfold maxLen at t2
        clear hb4 RN B3 HM3 hm3 HR3 HS3 ho4
        go_wp2_with fail
        refine (LT.out _ B4.out).mono ?_
        rintro e w5 ⟨rfl, hb5⟩
        have B5 := Lib.hid (Bt B4.out hb5)
        have HR5 := Lib.hid (HR4.out.below hb5)
        have HS5 := Lib.hid (HS4.out.below hb5)
        have HT5 := Lib.hid (HT4.out.below hb5)
        clear hb5 LT B4 HR4 HS4 HT4 z1 z2 z3 z4 hm4
        go_wp2_with fail
        refine (HT.out _ B5.out).mono ?_
        rintro e w6 ⟨v6, rfl, hs6, hb6⟩
        have B6 := Lib.hid (Bt B5.out hb6)
        have RH6 := Lib.hid (RH.out _ w6 (HR5.out.below hb6))
        have HS6 := Lib.hid (HS5.out.below hb6)
        have HT6 := Lib.hid (HT5.out.below hb6)
        have HH6 := Lib.hid hs6
        clear hb6 HT B5 HR5 HS5 HT5 hs6 RH
        go_wp2_with fail
        refine RH6.out.mono ?_
        rintro e w7 ⟨v7, rfl, ho7, _, hb7⟩
        have B7 := Lib.hid (Bt B6.out hb7)
        have HS7 := Lib.hid (HS6.out.below hb7)
        have HT7 := Lib.hid (HT6.out.below hb7)
        have SC := Lib.hid (same_call (hdsB B) (hdsB B) v6 v7 w7 (HH6.out.below hb7) (row_sl lenH ho7 rfl))
        clear hb7 RH6 B6 HS6 HT6 HH6 ho7
        go_wp2_with fail
        refine SC.out.mono ?_
        rintro e w8 ⟨rfl, hg8⟩
        have B8 := Lib.hid (Bt B7.out hg8.below)
        obtain ⟨p3', c3', e3, _, _, s3⟩ := HS7.out.below hg8.below
        obtain ⟨p4', c4', e4, _, _, s4⟩ := HT7.out.below hg8.below
        obtain ⟨rfl, rfl⟩ : p3 = p3' ∧ c3 = c3' := by simpa using e3
        obtain ⟨rfl, rfl⟩ : p4 = p4' ∧ c4 = c4' := by simpa using e4
        have H3 := Lib.hid s3
        have H4 := Lib.hid s4
        clear hg8 SC B7 HS7 HT7 s3 s4 e3 e4
        simp only [decide_true]
        have hnl : (nodesB B).length ≤ 1000 := by
          have h1 := srt_len ltC (nodeL B)
          have h2 := nodeL_len B
          unfold nodesB
          omega
        generalize nodesB B = E at *
        go_wp2
        go_loopw [99] (fun u wr => ∃ j : Nat, u = .int .i64 j ∧ j ≤ E.length ∧ RowKit.Below w8.heap.size w8 wr) (fun u _ => E.length - (intOf u).toNat)
        case atStart => exact ⟨0, rfl, Nat.zero_le _, Below.refl _ _⟩
        case round =>
          obtain ⟨j, rfl, hj, hb⟩ := hrel
          have HBj := Lib.hid hb
          clear hb
          by_cases hjl : j < E.length
          · obtain ⟨g5, o5, rfl, hg5, hc5⟩ := H3.out (by omega)
            obtain ⟨g6, o6, rfl, hg6, hc6⟩ := H4.out (by omega)
            obtain ⟨a1, a2, a3⟩ := atC hc5 hjl
            obtain ⟨b1, b2, b3⟩ := atC hc6 hjl
            replace a1 := Bc HBj.out hg5 a1
            replace a2 := Bc HBj.out hg5 a2
            replace a3 := Bc HBj.out hg5 a3
            replace b1 := Bc HBj.out hg6 b1
            replace b2 := Bc HBj.out hg6 b2
            replace b3 := Bc HBj.out hg6 b3
            have hg5r := cell_lt a1
            have hg6r := cell_lt b1
            have ne := fun W => ne_of_eq (by kernel_rfl) (eqC_run E[j]! E[j]! W)
            have gd := gdC_run
            unfold clV at ne
            simp only [decide_true, Bool.not_true] at ne
            generalize E[j]! = y at *
            obtain ⟨y1', y2', y3'⟩ := y
            dsimp only at a1 a2 a3 b1 b2 b3 ne
            clear hc5 hc6
            go_wp2_with fail
            refine wp_region_held_drew (S := (fun w' => Below (wr).heap.size (wr) w' ∧ ∀ b_1 o, b_1 < (wr).heap.size → w'.cell? ⟨b_1, o, none⟩ = (wr).cell? ⟨b_1, o, none⟩)) (by kernel_rfl) (keep0 _) (fun hHeld => ?_)
            (refine wpAnyH_take (i := 0) (v := ?_) rfl (by kernel_rfl) (by kernel_rfl) (by kernel_rfl) (fun _ _ _ h => h) (Or.inl ⟨by rfl, ?rt⟩) (by assumption) ?_; case rt => (intro w hSw; (try dsimp only at hSw); go_simp; (try with_reducible rfl))); (try simp only [Act.put, List.getElem_toArray, List.getElem_cons_succ, List.getElem_cons_zero, List.setIfInBounds_toArray, List.set_cons_zero, List.set_cons_succ])
            (refine wpAnyH_take (i := 1) (v := ?_) rfl (by kernel_rfl) (by kernel_rfl) (by kernel_rfl) (fun _ _ _ h => h) (Or.inl ⟨by rfl, ?rt⟩) (by assumption) ?_; case rt => (intro w hSw; (try dsimp only at hSw); go_simp; (try with_reducible rfl))); (try simp only [Act.put, List.getElem_toArray, List.getElem_cons_succ, List.getElem_cons_zero, List.setIfInBounds_toArray, List.set_cons_zero, List.set_cons_succ])
            (refine wpAnyH_take (i := 2) (v := ?_) rfl (by kernel_rfl) (by kernel_rfl) (by kernel_rfl) (fun _ _ _ h => h) (Or.inl ⟨by rfl, ?rt⟩) (by assumption) ?_; case rt => (intro w hSw; (try dsimp only at hSw); go_simp; (try with_reducible rfl))); (try simp only [Act.put, List.getElem_toArray, List.getElem_cons_succ, List.getElem_cons_zero, List.setIfInBounds_toArray, List.set_cons_zero, List.set_cons_succ])
            (refine wpAnyH_take (i := 3) (v := ?_) rfl (by kernel_rfl) (by kernel_rfl) (by kernel_rfl) (fun _ _ _ h => h) (Or.inl ⟨by rfl, ?rt⟩) (by assumption) ?_; case rt => (intro w hSw; (try dsimp only at hSw); go_simp; (try with_reducible rfl))); (try simp only [Act.put, List.getElem_toArray, List.getElem_cons_succ, List.getElem_cons_zero, List.setIfInBounds_toArray, List.set_cons_zero, List.set_cons_succ])
            (refine wpAnyH_take (i := 4) (v := ?_) rfl (by kernel_rfl) (by kernel_rfl) (by kernel_rfl) (fun _ _ _ h => h) (Or.inl ⟨by rfl, ?rt⟩) (by assumption) ?_; case rt => (intro w hSw; (try dsimp only at hSw); go_simp; (try with_reducible rfl))); (try simp only [Act.put, List.getElem_toArray, List.getElem_cons_succ, List.getElem_cons_zero, List.setIfInBounds_toArray, List.set_cons_zero, List.set_cons_succ])
            (refine wpAnyH_take (i := 5) (v := ?_) rfl (by kernel_rfl) (by kernel_rfl) (by kernel_rfl) (fun _ _ _ h => h) (Or.inl ⟨by rfl, ?rt⟩) (by assumption) ?_; case rt => (intro w hSw; (try dsimp only at hSw); go_simp; (try with_reducible rfl))); (try simp only [Act.put, List.getElem_toArray, List.getElem_cons_succ, List.getElem_cons_zero, List.setIfInBounds_toArray, List.set_cons_zero, List.set_cons_succ])
            (refine wpAnyH_take (i := 6) (v := ?_) rfl (by kernel_rfl) (by kernel_rfl) (by kernel_rfl) (fun _ _ _ h => h) (Or.inl ⟨by rfl, ?rt⟩) (by assumption) ?_; case rt => (intro w hSw; (try dsimp only at hSw); go_simp; (try with_reducible rfl))); (try simp only [Act.put, List.getElem_toArray, List.getElem_cons_succ, List.getElem_cons_zero, List.setIfInBounds_toArray, List.set_cons_zero, List.set_cons_succ])
            (refine wpAnyH_take (i := 7) (v := ?_) rfl (by kernel_rfl) (by kernel_rfl) (by kernel_rfl) (fun _ _ _ h => h) (Or.inl ⟨by rfl, ?rt⟩) (by assumption) ?_; case rt => (intro w hSw; (try dsimp only at hSw); go_simp; (try with_reducible rfl))); (try simp only [Act.put, List.getElem_toArray, List.getElem_cons_succ, List.getElem_cons_zero, List.setIfInBounds_toArray, List.set_cons_zero, List.set_cons_succ])
            (refine wpAnyH_take (i := 8) (v := ?_) rfl (by kernel_rfl) (by kernel_rfl) (by kernel_rfl) (fun _ _ _ h => h) (Or.inl ⟨by rfl, ?rt⟩) (by assumption) ?_; case rt => (intro w hSw; (try dsimp only at hSw); go_simp; (try with_reducible rfl))); (try simp only [Act.put, List.getElem_toArray, List.getElem_cons_succ, List.getElem_cons_zero, List.setIfInBounds_toArray, List.set_cons_zero, List.set_cons_succ])
            refine wpAnyH_done (by kernel_rfl) ?_ _
            go_wp2
            go_roundw
            case measure => simp only [intOf]; omega
            case rel => exact ⟨j + 1, by go_num, by omega, Bt HBj.out hHeld.1⟩
          · have hjn : j = E.length := by omega
            subst hjn
            go_wp2
            go_ret
            exact ⟨rfl, Bt B8.out HBj.out⟩
      case some y =>
        rw [hq] at BX
        obtain ⟨m1, m2, m3, m4⟩ := y
        simp only [Option.getD_some, Option.isSome_some] at BX ⊢
        go_wp2_with fail
        refine (BX.out _ BW.out).mono ?_
        rintro e w2 ⟨rfl, hb2⟩
        have B2 := Lib.hid (Ba (Bt BW.out hb2) (.cells #[.int .i64 m1, .int .i64 m2, .int .i64 m3, .int .i64 m4] 30))
        have HM := Lib.hid (cells4 (heap_alloc_new w2 (.cells #[.int .i64 m1, .int .i64 m2, .int .i64 m3, .int .i64 m4] 30)))
        have hm2 : w2.heap.size < (w2.alloc (.cells #[.int .i64 m1, .int .i64 m2, .int .i64 m3, .int .i64 m4] 30)).heap.size := by simp
        have HR2 := Lib.hid (HRH.out.below (Ba hb2 (.cells #[.int .i64 m1, .int .i64 m2, .int .i64 m3, .int .i64 m4] 30)))
        clear hb2 BX BW HRH
        go_wp2_with fail
        refine (NT.out _ B2.out).mono ?_
        rintro e w3 ⟨v3, rfl, hs3, hb3⟩
        have B3 := Lib.hid (Bt B2.out hb3)
        have HM3 := Lib.hid (And.intro (Bc hb3 hm2 HM.out.1) (And.intro (Bc hb3 hm2 HM.out.2.1) (And.intro (Bc hb3 hm2 HM.out.2.2.1) (Bc hb3 hm2 HM.out.2.2.2))))
        have hm3 := Bl hb3 hm2
        have HR3 := Lib.hid (HR2.out.below hb3)
        have HS3 := Lib.hid hs3
        obtain ⟨p3, c3, rfl, n1, n2, _⟩ := hs3
        unfold maxLen at n2
        clear hb3 NT B2 HM hm2 HR2
        go_wp2_with fail
        refine (RN.out _ B3.out).mono ?_
        rintro e w4 ⟨v4, rfl, ho4, hb4⟩
        have B4 := Lib.hid (Bt B3.out hb4)
        have z1 := Bc hb4 hm3 HM3.out.1
        have z2 := Bc hb4 hm3 HM3.out.2.1
        have z3 := Bc hb4 hm3 HM3.out.2.2.1
        have z4 := Bc hb4 hm3 HM3.out.2.2.2
        have hm4 := cell_lt z1
        have HR4 := Lib.hid (HR3.out.below hb4)
        have HS4 := Lib.hid (HS3.out.below hb4)
        have HT4 := Lib.hid (row_sl lenC ho4 rfl)
        obtain ⟨p4, c4, rfl, t1, t2, _⟩ := row_val ho4
        unfold maxLen at t2
        clear hb4 RN B3 HM3 hm3 HR3 HS3 ho4
        go_wp2_with fail
        refine (LT.out _ B4.out).mono ?_
        rintro e w5 ⟨rfl, hb5⟩
        have B5 := Lib.hid (Bt B4.out hb5)
        have HR5 := Lib.hid (HR4.out.below hb5)
        have HS5 := Lib.hid (HS4.out.below hb5)
        have HT5 := Lib.hid (HT4.out.below hb5)
        clear hb5 LT B4 HR4 HS4 HT4 z1 z2 z3 z4 hm4
        go_wp2_with fail
        refine (HT.out _ B5.out).mono ?_
        rintro e w6 ⟨v6, rfl, hs6, hb6⟩
        have B6 := Lib.hid (Bt B5.out hb6)
        have RH6 := Lib.hid (RH.out _ w6 (HR5.out.below hb6))
        have HS6 := Lib.hid (HS5.out.below hb6)
        have HT6 := Lib.hid (HT5.out.below hb6)
        have HH6 := Lib.hid hs6
        clear hb6 HT B5 HR5 HS5 HT5 hs6 RH
        go_wp2_with fail
        refine RH6.out.mono ?_
        rintro e w7 ⟨v7, rfl, ho7, _, hb7⟩
        have B7 := Lib.hid (Bt B6.out hb7)
        have HS7 := Lib.hid (HS6.out.below hb7)
        have HT7 := Lib.hid (HT6.out.below hb7)
        have SC := Lib.hid (same_call (hdsB B) (hdsB B) v6 v7 w7 (HH6.out.below hb7) (row_sl lenH ho7 rfl))
        clear hb7 RH6 B6 HS6 HT6 HH6 ho7
        go_wp2_with fail
        refine SC.out.mono ?_
        rintro e w8 ⟨rfl, hg8⟩
        have B8 := Lib.hid (Bt B7.out hg8.below)
        obtain ⟨p3', c3', e3, _, _, s3⟩ := HS7.out.below hg8.below
        obtain ⟨p4', c4', e4, _, _, s4⟩ := HT7.out.below hg8.below
        obtain ⟨rfl, rfl⟩ : p3 = p3' ∧ c3 = c3' := by simpa using e3
        obtain ⟨rfl, rfl⟩ : p4 = p4' ∧ c4 = c4' := by simpa using e4
        have H3 := Lib.hid s3
        have H4 := Lib.hid s4
        clear hg8 SC B7 HS7 HT7 s3 s4 e3 e4
        simp only [decide_true]
        have hnl : (nodesB B).length ≤ 1000 := by
          have h1 := srt_len ltC (nodeL B)
          have h2 := nodeL_len B
          unfold nodesB
          omega
        generalize nodesB B = E at *
        go_wp2
        go_loopw [99] (fun u wr => ∃ j : Nat, u = .int .i64 j ∧ j ≤ E.length ∧ RowKit.Below w8.heap.size w8 wr) (fun u _ => E.length - (intOf u).toNat)
        case atStart => exact ⟨0, rfl, Nat.zero_le _, Below.refl _ _⟩
        case round =>
          obtain ⟨j, rfl, hj, hb⟩ := hrel
          have HBj := Lib.hid hb
          clear hb
          by_cases hjl : j < E.length
          · obtain ⟨g5, o5, rfl, hg5, hc5⟩ := H3.out (by omega)
            obtain ⟨g6, o6, rfl, hg6, hc6⟩ := H4.out (by omega)
            obtain ⟨a1, a2, a3⟩ := atC hc5 hjl
            obtain ⟨b1, b2, b3⟩ := atC hc6 hjl
            replace a1 := Bc HBj.out hg5 a1
            replace a2 := Bc HBj.out hg5 a2
            replace a3 := Bc HBj.out hg5 a3
            replace b1 := Bc HBj.out hg6 b1
            replace b2 := Bc HBj.out hg6 b2
            replace b3 := Bc HBj.out hg6 b3
            have hg5r := cell_lt a1
            have hg6r := cell_lt b1
            have ne := fun W => ne_of_eq (by kernel_rfl) (eqC_run E[j]! E[j]! W)
            have gd := gdC_run
            unfold clV at ne
            simp only [decide_true, Bool.not_true] at ne
            generalize E[j]! = y at *
            obtain ⟨y1', y2', y3'⟩ := y
            dsimp only at a1 a2 a3 b1 b2 b3 ne
            clear hc5 hc6
            go_wp2_with fail
            refine wp_region_held_drew (S := (fun w' => Below (wr).heap.size (wr) w' ∧ ∀ b_1 o, b_1 < (wr).heap.size → w'.cell? ⟨b_1, o, none⟩ = (wr).cell? ⟨b_1, o, none⟩)) (by kernel_rfl) (keep0 _) (fun hHeld => ?_)
            (refine wpAnyH_take (i := 0) (v := ?_) rfl (by kernel_rfl) (by kernel_rfl) (by kernel_rfl) (fun _ _ _ h => h) (Or.inl ⟨by rfl, ?rt⟩) (by assumption) ?_; case rt => (intro w hSw; (try dsimp only at hSw); go_simp; (try with_reducible rfl))); (try simp only [Act.put, List.getElem_toArray, List.getElem_cons_succ, List.getElem_cons_zero, List.setIfInBounds_toArray, List.set_cons_zero, List.set_cons_succ])
            (refine wpAnyH_take (i := 1) (v := ?_) rfl (by kernel_rfl) (by kernel_rfl) (by kernel_rfl) (fun _ _ _ h => h) (Or.inl ⟨by rfl, ?rt⟩) (by assumption) ?_; case rt => (intro w hSw; (try dsimp only at hSw); go_simp; (try with_reducible rfl))); (try simp only [Act.put, List.getElem_toArray, List.getElem_cons_succ, List.getElem_cons_zero, List.setIfInBounds_toArray, List.set_cons_zero, List.set_cons_succ])
            (refine wpAnyH_take (i := 2) (v := ?_) rfl (by kernel_rfl) (by kernel_rfl) (by kernel_rfl) (fun _ _ _ h => h) (Or.inl ⟨by rfl, ?rt⟩) (by assumption) ?_; case rt => (intro w hSw; (try dsimp only at hSw); go_simp; (try with_reducible rfl))); (try simp only [Act.put, List.getElem_toArray, List.getElem_cons_succ, List.getElem_cons_zero, List.setIfInBounds_toArray, List.set_cons_zero, List.set_cons_succ])
            (refine wpAnyH_take (i := 3) (v := ?_) rfl (by kernel_rfl) (by kernel_rfl) (by kernel_rfl) (fun _ _ _ h => h) (Or.inl ⟨by rfl, ?rt⟩) (by assumption) ?_; case rt => (intro w hSw; (try dsimp only at hSw); go_simp; (try with_reducible rfl))); (try simp only [Act.put, List.getElem_toArray, List.getElem_cons_succ, List.getElem_cons_zero, List.setIfInBounds_toArray, List.set_cons_zero, List.set_cons_succ])
            (refine wpAnyH_take (i := 4) (v := ?_) rfl (by kernel_rfl) (by kernel_rfl) (by kernel_rfl) (fun _ _ _ h => h) (Or.inl ⟨by rfl, ?rt⟩) (by assumption) ?_; case rt => (intro w hSw; (try dsimp only at hSw); go_simp; (try with_reducible rfl))); (try simp only [Act.put, List.getElem_toArray, List.getElem_cons_succ, List.getElem_cons_zero, List.setIfInBounds_toArray, List.set_cons_zero, List.set_cons_succ])
            (refine wpAnyH_take (i := 5) (v := ?_) rfl (by kernel_rfl) (by kernel_rfl) (by kernel_rfl) (fun _ _ _ h => h) (Or.inl ⟨by rfl, ?rt⟩) (by assumption) ?_; case rt => (intro w hSw; (try dsimp only at hSw); go_simp; (try with_reducible rfl))); (try simp only [Act.put, List.getElem_toArray, List.getElem_cons_succ, List.getElem_cons_zero, List.setIfInBounds_toArray, List.set_cons_zero, List.set_cons_succ])
            (refine wpAnyH_take (i := 6) (v := ?_) rfl (by kernel_rfl) (by kernel_rfl) (by kernel_rfl) (fun _ _ _ h => h) (Or.inl ⟨by rfl, ?rt⟩) (by assumption) ?_; case rt => (intro w hSw; (try dsimp only at hSw); go_simp; (try with_reducible rfl))); (try simp only [Act.put, List.getElem_toArray, List.getElem_cons_succ, List.getElem_cons_zero, List.setIfInBounds_toArray, List.set_cons_zero, List.set_cons_succ])
            (refine wpAnyH_take (i := 7) (v := ?_) rfl (by kernel_rfl) (by kernel_rfl) (by kernel_rfl) (fun _ _ _ h => h) (Or.inl ⟨by rfl, ?rt⟩) (by assumption) ?_; case rt => (intro w hSw; (try dsimp only at hSw); go_simp; (try with_reducible rfl))); (try simp only [Act.put, List.getElem_toArray, List.getElem_cons_succ, List.getElem_cons_zero, List.setIfInBounds_toArray, List.set_cons_zero, List.set_cons_succ])
            (refine wpAnyH_take (i := 8) (v := ?_) rfl (by kernel_rfl) (by kernel_rfl) (by kernel_rfl) (fun _ _ _ h => h) (Or.inl ⟨by rfl, ?rt⟩) (by assumption) ?_; case rt => (intro w hSw; (try dsimp only at hSw); go_simp; (try with_reducible rfl))); (try simp only [Act.put, List.getElem_toArray, List.getElem_cons_succ, List.getElem_cons_zero, List.setIfInBounds_toArray, List.set_cons_zero, List.set_cons_succ])
            refine wpAnyH_done (by kernel_rfl) ?_ _
            go_wp2
            go_roundw
            case measure => simp only [intOf]; omega
            case rel => exact ⟨j + 1, by go_num, by omega, Bt HBj.out hHeld.1⟩
          · have hjn : j = E.length := by omega
            subst hjn
            go_wp2
            go_ret
            exact ⟨rfl, Bt B8.out HBj.out⟩
end Go.Proofs.YtlnncnbahmgpfaaGreatDoor
