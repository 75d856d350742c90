import Derived.Test.YthgkbmeilolapaaGreatDoorZ14
import Derived.Test.YthgkbmeilolapaaGreatDoorZ13
import Derived.Test.YthgkbmeilolapaaGreatDoorZ4
import Derived.Deep.CutBlock
import Derived.Deep.DeepCutAuto

/-
  The walk of TablesTurns.
-/
namespace Go.Proofs.YthgkbmeilolapaaGreatDoor
set_option linter.unusedSimpArgs false
set_option linter.unusedVariables false
open Go.RowKit Go.Sort Go.Lib Go.Shelf

section
variable {N : Nat → Prop} {base ps : Nat} {w w' : World} {L L' : List En} {A : Nat → Addr}
theorem inS (h : StoO N base w ps L) (q : Nat) (hq : q < 18446744073709551616) : Calls Tryz.prog 29 #[psP ps, .int .u64 q] w fun e w' => ∃ v, e = .returned v ∧ Sl encH w' v (inE L q) ∧ RowKit.Below w.heap.size w w' :=
  h.read fun M bt bp tt pl MT hS => sin_call hS q hq
end
abbrev HdB (a b : Int) : Obj := .cells #[.int .i64 a, .int .i64 b] 31
section
variable {A : Nat → Addr}
set_option maxHeartbeats 4000000 in
set_option maxRecDepth 100000 in
theorem tablesTurns_walk (l : List Rr) (v : Value) (x y1 y2 y3 : Int) (w : World) (hl : Sl encRr w v l) (hr : ∀ r ∈ l, Sl encV w r.1 r.2) (hw : (Lit.int .i64 y1).wf = true) (hE : Er8 w A) (hT : TabW w) :
    Calls Tryz.prog 5 #[v, .int .i64 x, .agg #[.int .i64 y1, .int .i64 y2, .int .i64 y3]] w fun e w' => e = .returned (.bool true) ∧ RowKit.Below w.heap.size w w' := by
  have bl := Ba (Below.refl _ w) (.cells #[.int .i64 y1, .int .i64 y2, .int .i64 y3] 34)
  have X0 := Lib.hid (heap_alloc_new w (.cells #[.int .i64 y1, .int .i64 y2, .int .i64 y3] 34))
  have hsz : (w.alloc (.cells #[.int .i64 y1, .int .i64 y2, .int .i64 y3] 34)).heap.size = w.heap.size + 1 := by simp
  have C0 := Lib.hid (alive8_any (w.alloc (.cells #[.int .i64 y1, .int .i64 y2, .int .i64 y3] 34)) (hE.below bl) (hT.below bl))
  have HA := Lib.hid (Era.of (hE.below bl) (hT.below bl) (Nat.le_refl (w.alloc (.cells #[.int .i64 y1, .int .i64 y2, .int .i64 y3] 34)).heap.size))
  have BL := Lib.hid bl
  have HR := Lib.hid (show ∀ r ∈ l, Sl encV (w.alloc (.cells #[.int .i64 y1, .int .i64 y2, .int .i64 y3] 34)) r.1 r.2 from fun r h => (hr r h).below bl)
  have HV := Lib.hid (hl.below bl).slN
  obtain ⟨pv, cv, rfl, hcv, hcm, _⟩ := hl
  have hcv2 : l.length ≤ 9223372036854775807 := by unfold maxLen at hcm; omega
  clear hE hT hr bl
  by_cases h0 : l.length < 1
  · have h0' : (l.length : Int) < 1 := by omega
    go_enter Tryz.func5, Tryz.ntmps5
    go_wp2_with fail
    refine C0.out.mono ?_
    rintro e w1 ⟨rfl, hb1⟩
    go_wp2
    go_ret
    exact ⟨rfl, Bt BL.out hb1⟩
  · have h0' : ¬ (l.length : Int) < 1 := by omega
    by_cases h20 : l.length > 20
    · have h20' : (l.length : Int) > 20 := by omega
      go_enter Tryz.func5, Tryz.ntmps5
      go_wp2_with fail
      refine C0.out.mono ?_
      rintro e w1 ⟨rfl, hb1⟩
      go_wp2
      go_ret
      exact ⟨rfl, Bt BL.out hb1⟩
    · have h20' : ¬ (l.length : Int) > 20 := by omega
      have CC := Lib.hid (fun W => rcheck_any (y1, y2, y3) W)
      unfold aggV at CC
      by_cases hc : chk (y1, y2, y3) = 0
      · rw [hc] at CC
        have hz0 : ¬ (l.length : Int) = 0 := by omega
        have hz1 : ¬ l = [] := fun e => by subst e; simp at h0
        have hul : IntKind.u64.wrap (l.length : Int) = l.length := by rw [IntKind.wrap_u64]; omega
        obtain ⟨m, hm, he⟩ := idx_any x l.length (by omega) (by omega)
        go_enter Tryz.func5, Tryz.ntmps5
        go_wp2_with fail
        generalize hwa : w.alloc (.cells #[.int .i64 y1, .int .i64 y2, .int .i64 y3] 34) = wa at *
        clear hwa
        refine C0.out.mono ?_
        rintro e w1 ⟨rfl, hb1⟩
        have B1 := Lib.hid hb1
        obtain ⟨⟨a0, a1, a2⟩, _, _, _⟩ := three_cells (blk_below X0.out hb1)
        have hal := cell_lt a0
        clear hb1 C0
        go_wp2_with fail
        refine (CC.out w1).mono ?_
        rintro e w2 ⟨rfl, hg2⟩
        have B2 := Lib.hid (Bt B1.out hg2.below)
        clear hg2 B1 CC a0 a1 a2 hal
        have NW := Lib.hid (newS (N := NoN) B2.out.size (fun b e => e.elim))
        go_wp2_with fail
        refine NW.out.mono ?_
        rintro e w3 ⟨ps, rfl, hS3, hb3⟩
        have S3 := Lib.hid hS3
        have B3 := Lib.hid (Bt B2.out hb3)
        clear hS3 hb3 NW B2
        go_wp2
        go_loopw [35] (fun s35 wr => ∃ (k : Nat) (L : List En), s35 = .int .i64 k ∧ k ≤ l.length ∧ Hid (StoO NoN wa.heap.size wr ps L) ∧ Hid (Upto l k L) ∧ Hid (RowKit.Below wa.heap.size wa wr)) (fun i _ => l.length - (intOf i).toNat)
        case atStart => exact ⟨0, [], rfl, Nat.zero_le _, S3, Lib.hid (upto_zero l), B3⟩
        case round =>
          obtain ⟨k, L, rfl, hk, HS, HU, HB⟩ := hrel
          by_cases hkn : k < l.length
          · have hkz : (k : Int) < (l.length : Int) := by omega
            have hmem : l[k]! ∈ l := by rw [getElem!_pos l k hkn]; exact List.getElem_mem _
            have hsl := HR.out _ hmem
            have UP := Lib.hid (fun h32 hr => upto_step HU.out (k := k) h32 hr)
            obtain ⟨p', c', e', _, _, hcell⟩ := HV.out
            simp only [Value.slice.injEq] at e'
            obtain ⟨rfl, _, rfl⟩ := e'
            obtain ⟨g, o, rfl, hg, _, hcells⟩ := hcell (by omega)
            have v0 := Bc HB.out hg (atRr hcells hkn)
            have hgr : g < wr.heap.size := Nat.lt_of_lt_of_le hg HB.out.size
            generalize l[k]! = y at *
            obtain ⟨yv, yr⟩ := y
            dsimp only at *
            have HY := Lib.hid hsl.slN
            obtain ⟨pk, ck, rfl, _, hck, _⟩ := hsl
            have hck2 : yr.length ≤ 9223372036854775807 := by unfold maxLen at hck; omega
            clear hcells hcell hmem
            by_cases hy : yr.length > 20
            · have hy' : (yr.length : Int) > 20 := by omega
              go_wp2
              go_ret
              exact ⟨rfl, Bt BL.out HB.out⟩
            · have hy' : ¬ (yr.length : Int) > 20 := by omega
              have CR := Lib.hid (rright_call yr _ wr (HY.out.sl.below HB.out) (by omega))
              cases hrb : rightB yr with
              | false =>
                rw [hrb] at CR
                go_wp2_with fail
                refine CR.out.mono ?_
                rintro e w5 ⟨rfl, hb5⟩
                have B5 := Bt BL.out (Bt HB.out hb5)
                go_wp2
                go_ret
                exact ⟨rfl, B5⟩
              | true =>
                rw [hrb] at CR
                obtain ⟨p1, U1⟩ := UP.out (by omega) ((rightB_iff _).1 hrb)
                have HU1 := Lib.hid U1
                go_wp2_with fail
                refine CR.out.mono ?_
                rintro e w5 ⟨rfl, hb5⟩
                have CP := Lib.hid (putS (HS.out.below hb5) (k : Int) 1 (hdOk_idx k (by omega)) yr _ (HY.out.below (Bt HB.out hb5)) (fun b e => .inl e) (by omega) (HA.out.below (Bt HB.out hb5)))
                rw [p1, errV_no] at CP
                have B5 := Lib.hid (Bt HB.out hb5)
                clear hb5 v0 hgr U1 UP p1 CR
                go_wp2_with fail
                refine CP.out.mono ?_
                rintro e w6 ⟨rfl, hS6, ht6⟩
                have S6 := Lib.hid hS6
                have B6 := Lib.hid (B5.out.trans (OffT.below ht6 B5.out.size))
                clear hS6 ht6 CP B5
                go_wp2
                go_roundw
                case measure => simp [intOf]; omega
                case rel => exact ⟨k + 1, _, by go_num, by omega, S6, HU1, B6⟩
          · have hkk : k = l.length := by omega
            subst hkk
            have hA1 : IntKind.i64.wrap ((IntKind.u64.wrap x).tmod (l.length : Int)) = (m : Int) := by
              have he9 := he
              generalize (IntKind.u64.wrap x).tmod (l.length : Int) = t at he9 ⊢
              rw [IntKind.wrap_i64]
              unfold wrap64 at he9
              exact he9
            have bA := Ba (Below.refl _ wr) (HdB m 1)
            have S4 := Lib.hid (HS.out.off bA)
            have X4 := Lib.hid (heap_alloc_new wr (HdB m 1))
            have B4 := Lib.hid (Bt HB.out bA)
            have hs4 : (wr.alloc (HdB m 1)).heap.size = wr.heap.size + 1 := by simp
            have C1 := Lib.hid (addS S4.out m 1 (hdOk_idx m (by omega)) y1 y2 y3 (HA.out.below B4.out))
            obtain ⟨N, hN⟩ : ∃ N : Nat → Prop, N = (fun b => NoN b ∨ (wr.heap.size ≤ b ∧ b < (wr.alloc (HdB m 1)).heap.size)) := ⟨_, rfl⟩
            rw [← hN] at C1 S4
            have HNa := Lib.hid (show N wr.heap.size by rw [hN]; exact .inr ⟨Nat.le_refl _, by omega⟩)
            obtain ⟨⟨a0, a1, a2⟩, _, _, _⟩ := three_cells (blk_below X0.out B4.out)
            have hal := cell_lt a0
            obtain ⟨b0, b1, _, _⟩ := two_cells X4.out
            have hbl := cell_lt b0
            clear hN hs4 bA
            cases hh : hasK l[m]!.2 y1 with
            | true =>
              rw [upto_has HU.out (by omega) hc hh, errV_at _ _ (by decide)] at C1
              go_wp2_with fail
              refine C1.out.mono ?_
              rintro e w5 ⟨rfl, hS5, ht5⟩
              have B5 := B4.out.trans (OffT.below ht5 B4.out.size)
              clear hS5 ht5 C1
              go_wp2
              go_ret
              exact ⟨rfl, Bt BL.out B5⟩
            | false =>
              obtain ⟨q1, q2, q3, q4, U2⟩ := upto_turn HU.out (by omega) hm hc hh
              have HU2 := Lib.hid U2
              rw [q1, errV_no] at C1
              generalize addEL L ((m : Int), 1) (y1, y2, y3) = L1 at *
              clear U2
              go_wp2_with fail
              refine C1.out.mono ?_
              rintro e w5 ⟨rfl, hS5, ht5⟩
              have S5 := Lib.hid hS5
              have B5 := Lib.hid (B4.out.trans (OffT.below ht5 B4.out.size))
              have X5 := Lib.hid (ht5.blk X4.out (fun e => e.2 HNa.out))
              have C2 := Lib.hid (getS hS5 m 1 y1 (hdOk_idx m (by omega)) hw (HA.out.below B5.out))
              rw [q2, q3, errV_no] at C2
              unfold aggV at C2
              clear hS5 ht5 C1 a0 a1 a2 hal b0 b1 hbl
              obtain ⟨⟨a0, a1, a2⟩, _, _, _⟩ := three_cells (blk_below X0.out B5.out)
              have hal := cell_lt a0
              obtain ⟨b0, b1, _, _⟩ := two_cells X5.out
              have hbl := cell_lt b0
              go_wp2_with fail
              refine C2.out.mono ?_
              rintro e w6 ⟨rfl, hb6⟩
              have bV := Ba (Below.refl _ w6) (.cells #[.int .i64 y1, .int .i64 y2, .int .i64 y3] 34)
              have B6 := Lib.hid (Bt B5.out (Bt hb6 bV))
              have X6 := Lib.hid (blk_below X5.out (Bt hb6 bV))
              have S6 := Lib.hid (S5.out.below (Bt hb6 bV))
              have V6 := Lib.hid (heap_alloc_new w6 (.cells #[.int .i64 y1, .int .i64 y2, .int .i64 y3] 34))
              have C3 := Lib.hid (remS S6.out m 1 (hdOk_idx m (by omega)) y1 (HA.out.below B6.out))
              rw [q4, errV_no] at C3
              clear C2 hb6 bV a0 a1 a2 hal b0 b1 hbl
              obtain ⟨⟨a0, a1, a2⟩, _, _, _⟩ := three_cells (blk_below X0.out B6.out)
              have hal := cell_lt a0
              obtain ⟨b0, b1, _, _⟩ := two_cells X6.out
              have hbl := cell_lt b0
              obtain ⟨⟨d0, d1, d2⟩, _, _, _⟩ := three_cells V6.out
              have hdl := cell_lt d0
              go_wp2_with fail
              refine C3.out.mono ?_
              rintro e w7 ⟨rfl, hS7, ht7⟩
              have S7 := Lib.hid hS7
              have B7 := Lib.hid (B6.out.trans (OffT.below ht7 B6.out.size))
              have X7 := Lib.hid (ht7.blk X6.out (fun e => e.2 HNa.out))
              generalize remEL L1 ((m : Int), 1) y1 = L2 at *
              clear hS7 ht7 C3 a0 a1 a2 hal b0 b1 hbl d0 d1 d2 hdl X6 S6 V6 S5 X5
              go_wp2
              go_loopw [93] (fun s93 wr => ∃ (k : Nat), s93 = .int .i64 k ∧ k ≤ l.length ∧ Hid (RowKit.Below w7.heap.size w7 wr)) (fun i _ => l.length - (intOf i).toNat)
              case atStart => exact ⟨0, rfl, Nat.zero_le _, Lib.hid (Below.refl _ _)⟩
              case round =>
                obtain ⟨k, rfl, hk, HZ⟩ := hrel
                have HB7 := Lib.hid (Bt B7.out HZ.out)
                by_cases hkn : k < l.length
                · have hkz : (k : Int) < (l.length : Int) := by omega
                  have hmem : l[k]! ∈ l := by rw [getElem!_pos l k hkn]; exact List.getElem_mem _
                  have hsl := HR.out _ hmem
                  have hent := upto_ent HU2.out hkn
                  have CE := Lib.hid (entS (S7.out.below HZ.out) k 1 (hdOk_idx k (by omega)) (HA.out.below HB7.out))
                  rw [hent.1, hent.2.1, errV_no] at CE
                  obtain ⟨p', c', e', _, _, hcell⟩ := HV.out
                  simp only [Value.slice.injEq] at e'
                  obtain ⟨rfl, _, rfl⟩ := e'
                  obtain ⟨g, o, rfl, hg, _, hcells⟩ := hcell (by omega)
                  have v0 := Bc HB7.out hg (atRr hcells hkn)
                  have hgr : g < wr.heap.size := Nat.lt_of_lt_of_le hg HB7.out.size
                  clear hent
                  generalize l[k]! = y at *
                  obtain ⟨yv, yr⟩ := y
                  dsimp only at *
                  have HY := Lib.hid (hsl.below HB7.out)
                  clear hcells hcell hmem hsl
                  go_wp2_with fail
                  refine CE.out.mono ?_
                  rintro e w8 ⟨v8, rfl, hs8, hb8⟩
                  obtain ⟨p8, c8, rfl, _, _, _⟩ := id hs8
                  have bE := Ba (Below.refl _ w8) (.cells #[.int .i64 (k : Int), .int .i64 1, .slice p8 yr.length c8] 38)
                  have B8 := Lib.hid (Bt hb8 bE)
                  have E8 := Lib.hid (heap_alloc_new w8 (.cells #[.int .i64 (k : Int), .int .i64 1, .slice p8 yr.length c8] 38))
                  have CS := Lib.hid (same_call yr yr _ _ _ (hs8.below bE) (HY.out.below B8.out))
                  have htt : decide (yr = yr) = true := decide_eq_true rfl
                  rw [htt] at CS
                  obtain ⟨⟨b0, b1, b2⟩, _, _, _⟩ := three_cells E8.out
                  have hbl := cell_lt b0
                  clear hs8 hb8 bE CE v0 hgr
                  go_wp2_with fail
                  refine CS.out.mono ?_
                  rintro e w9 ⟨rfl, hg9⟩
                  have B9 := Lib.hid (Bt HZ.out (Bt B8.out hg9.below))
                  clear hg9 b0 b1 b2 hbl CS
                  go_wp2
                  go_roundw
                  case measure => simp [intOf]; omega
                  case rel => exact ⟨k + 1, by go_num, by omega, B9⟩
                · have hmz : (m : Int) < (l.length : Int) := by omega
                  have hmem : l[m]! ∈ l := by rw [getElem!_pos l m hm]; exact List.getElem_mem _
                  have hsl := HR.out _ hmem
                  have hent := (upto_ent HU2.out hm).2.2
                  have hrt := HU2.out.right hm
                  obtain ⟨p', c', e', _, _, hcell⟩ := HV.out
                  simp only [Value.slice.injEq] at e'
                  obtain ⟨rfl, _, rfl⟩ := e'
                  obtain ⟨g, o, rfl, hg, _, hcells⟩ := hcell (by omega)
                  have v0 := Bc HB7.out hg (atRr hcells hm)
                  have hgr : g < wr.heap.size := Nat.lt_of_lt_of_le hg HB7.out.size
                  obtain ⟨b0, b1, _, _⟩ := two_cells (blk_below X7.out HZ.out)
                  have hbl := cell_lt b0
                  clear hh
                  generalize l[m]! = y at *
                  obtain ⟨yv, yr⟩ := y
                  dsimp only at *
                  have hlen : yr.length ≤ 100000 := by
                    have := rowL_len yr; rw [(right_row hrt).2] at this
                    omega
                  have CM := Lib.hid (rmask_call yr yv wr (hsl.below HB7.out) hrt.2 hlen)
                  have hml := mask_lt hrt
                  clear hcells hcell hmem hsl
                  go_wp2_with fail
                  refine CM.out.mono ?_
                  rintro e w8 ⟨rfl, hb8⟩
                  have CI := Lib.hid (inS (S7.out.below (Bt HZ.out hb8)) (maskV yr) (by omega))
                  have B8 := Lib.hid (Bt HB7.out hb8)
                  clear hb8 v0 hgr b0 b1 hbl CM
                  go_wp2_with fail
                  refine CI.out.mono ?_
                  rintro e w9 ⟨v9, rfl, hs9, hb9⟩
                  obtain ⟨p9, c9, rfl, _, _, _⟩ := hs9
                  have B9 := Lib.hid (Bt B8.out hb9)
                  have hpz : ((inE L2 (maskV yr)).length : Int) > 0 := by omega
                  clear hb9 CI
                  go_wp2
                  go_ret
                  exact ⟨by simp, Bt BL.out B9.out⟩
      · have hc' : ¬ ((chk (y1, y2, y3) : Nat) : Int) = 0 := by omega
        generalize chk (y1, y2, y3) = c at *
        have hcb : ((c : Int) != 0) = true := bne_iff_ne.2 hc'
        go_enter Tryz.func5, Tryz.ntmps5
        go_wp2_with fail
        refine C0.out.mono ?_
        rintro e w1 ⟨rfl, hb1⟩
        have B1 := Lib.hid (Bt BL.out hb1)
        obtain ⟨⟨a0, a1, a2⟩, _, _, _⟩ := three_cells (blk_below X0.out hb1)
        have hal := cell_lt a0
        clear hb1 C0
        go_wp2_with fail
        refine (CC.out w1).mono ?_
        rintro e w2 ⟨rfl, hg2⟩
        have B2 := Bt B1.out hg2.below
        go_wp2
        go_ret
        exact ⟨rfl, B2⟩
end
end Go.Proofs.YthgkbmeilolapaaGreatDoor

/-
  Whatever rows, number and component it is given, TablesTurns answers true and leaves its arguments as they were. Conditions: the errors' variables that it names read as the program's text lays them (the card ties them to that text).
-/
namespace Go.Proofs.YthgkbmeilolapaaGreatDoor
set_option linter.unusedSimpArgs false
set_option linter.unusedVariables false
open Go.ChangeShapes Go.WideShapes Go.ChangeAt Go.RowKit Go.Joins

set_option maxRecDepth 100000 in
theorem tablesTurns_lifted (os : Os) (started : os.Started) (H : Type) (enc : TypeId × Value → H) :
    ReturnsInHanded {} Tryz.checked os 5 .any (fun w args => (Rows.tablesTurnsSpec.pre enc Tryz.prog Tryz.f5 [] false w args ∧ laidMetH Tryz.prog Rows.tablesTurnsRow.laid w) ∧ sizedMet enc Tryz.prog Tryz.f5 (OpenSpec.ofChange Rows.tablesTurnsSpec) false w args)
      (Rows.tablesTurnsSpec.post enc Tryz.prog Tryz.f5 false true false false) := by
  refine returnsInHanded_of_change_and (C := Tryz.checked) (X := fun w _ => laidMetH Tryz.prog Rows.tablesTurnsRow.laid w) (fun _ _ _ hh h => h.of_heap hh) own started (by kernel_rfl) Tryz.func5
    (ChangeSpec.witness_shaped (enc := enc) (C := Tryz.checked) (os := os) (X := fun w _ => laidMetH Tryz.prog Rows.tablesTurnsRow.laid w) false (World.doorLaid Tryz.prog 220 os) #[.slice none 0 0, .int .i64 0, .agg #[.int .i64 0, .int .i64 0, .int .i64 0]] 8 rfl (World.shaped_of_RefB (by kernel_rfl) (by kernel_rfl)) (by kernel_rfl) (by kernel_rfl) (by kernel_rfl) (laidMetH_of_parts3 (fuel := 8) (laidMet_of_run' 8 (by kernel_rfl) (by kernel_rfl)) (by kernel_rfl) (by kernel_rfl))) ?_
  intro W base args ds gs before hval0 hW _ _ hL _
  have hval : ∀ (j : Nat) t v, Tryz.f5.params[j]? = some t → args[j]? = some v → Value.okWide Tryz.prog W .any base t v := hval0
  have hW' := hW
  obtain ⟨p, q, hA0, hV, rfl, hfz, hnd⟩ := hW
  have hA : DataW.TrodAll enc Tryz.prog W 0 (fun _ => true) true Tryz.f5.params.toList args.toList ds p := hA0
  rw [Tryz.params5] at hA hval
  obtain ⟨v0, vs0, d0, ds0, p0, q0, hargs, rfl, rfl, h0, r0⟩ := trodAll_cons hA
  obtain ⟨v1, vs1, d1, ds1, p1, q1, rfl, rfl, rfl, h1, r1⟩ := trodAll_cons r0
  obtain ⟨v2, vs2, d2, ds2, p2, q2, rfl, rfl, rfl, h2, r2⟩ := trodAll_cons r1
  obtain ⟨rfl, rfl, rfl⟩ := trodAll_nil r2
  obtain rfl : args = #[v0, v1, v2] := by cases args; simp_all
  obtain ⟨l0, hl0, hr0⟩ := open_rows (hval 0 60 v0 rfl rfl) h0
  obtain ⟨x1, rfl, rfl, rfl, w1⟩ := open_int Tryz.underlying3 (hval 1 3 v1 rfl rfl) h1
  obtain ⟨x2, y2, z2, rfl, w2, u2, t2⟩ := open_val (hval 2 34 v2 rfl rfl) h2
  clear hA0 hval0
  have hL' : laidMet Tryz.prog Rows.tablesTurnsRow.laid W := by
    have h := hL
    rw [MakeChecks.laidMetH_plain _ _ _ (by kernel_rfl)] at h
    exact h
  have hT := tab_of hL'
  obtain ⟨A, hE⟩ := er8_list hL' (.tail _ (.head _)) (.tail _ (.tail _ (.head _))) (.tail _ (.tail _ (.tail _ (.head _)))) (.tail _ (.tail _ (.tail _ (.tail _ (.head _))))) (.tail _ (.tail _ (.tail _ (.tail _ (.tail _ (.head _)))))) (.tail _ (.tail _ (.tail _ (.tail _ (.tail _ (.tail _ (.head _)))))))
  refine (tablesTurns_walk l0 v0 x1 x2 y2 z2 W hl0 hr0 w2 hE hT).mono fun e W' ⟨he, hb⟩ => ?_
  subst he
  exact ⟨_, rfl, law_post laidOut (by kernel_rfl) rfl (by kernel_rfl) Tryz.underlying4 (fun ds hd => by match ds, hd with | [_, _, _], _ => rfl) hW' hb⟩

theorem tablesTurns_row : Rows.TablesTurnsSaid :=
  OpenClaim.holds_of_wide 5 Tryz.f5 rfl rfl rfl rfl rfl rfl rfl ⟨rfl, rfl, rfl, rfl, rfl⟩ rfl rfl rfl rfl rfl (by kernel_rfl) Tryz.func5 (by kernel_rfl)
    (of_decide_eq_true (by kernel_rfl)) (by unfold Func.isWrapper; first | (rw [if_pos (by decide +kernel)]; kernel_rfl) | (rw [if_neg (by decide +kernel)]; exact ⟨rfl, rfl⟩))
    (fun os started H enc _ => tablesTurns_lifted os started H enc)

theorem tablesTurns_holds : Rows.TablesTurnsCardSaid :=
  Claim7.holds_tied_plain_at .later [] Rows.tablesTurnsCard.laidKinds true Rows.tablesTurnsCard.stood.harness true
    tablesTurns_row (fun _ h => by cases h) (by kernel_rfl) (fun _ h => by cases h) tablesTurns_row_tie rfl ⟨rfl, rfl⟩ (by kernel_rfl) rfl
    (fun f fn hf hfn => by
      obtain rfl : f = 5 := Option.some.inj ((show Tryz.prog.funcNamed "paddock/paddocklaw08.TablesTurns" = some 5 by kernel_rfl).symm.trans hf) |>.symm
      obtain rfl : fn = Tryz.f5 := (Option.some.inj (Tryz.func5.symm.trans hfn)).symm
      exact ⟨by kernel_rfl, fun j t ht => by
        rw [Tryz.params5] at ht
        have hm : t ∈ [60, 3, 34] := by
          have := Array.mem_of_getElem? ht
          simp at this ⊢
          omega
        have hall : ([60, 3, 34].all fun u => !Tryz.prog.wantsStandIn u) = true := by kernel_rfl
        exact (show Tryz.prog.wantsStandIn t = false by simpa using List.all_eq_true.1 hall t hm)⟩)
    (by kernel_rfl)
#print axioms tablesTurns_holds
end Go.Proofs.YthgkbmeilolapaaGreatDoor
