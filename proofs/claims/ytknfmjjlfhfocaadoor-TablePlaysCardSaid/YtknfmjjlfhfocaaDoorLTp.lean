/-
  TablePlays, walked (written by mkplays.py).
-/
import Derived.Test.YtknfmjjlfhfocaaDoorPq
import Derived.BigRegion
import Derived.Deep.CutBlock
import Derived.Deep.DeepCutAuto
namespace Go.Proofs.YtknfmjjlfhfocaaDoor
set_option linter.unusedSimpArgs false
set_option linter.unusedVariables false
open Go.RowKit Go.Sort Go.Lib Go.Shelf

section
variable {A : Nat → Addr}
set_option maxHeartbeats 16000000 in
set_option maxRecDepth 100000 in
theorem tablePlays_walk (q : Nat) (l : List Opq) (v : Value) (w : World) (hq64 : q < 18446744073709551616) (hv : Sl encO w v l) (ho : ∀ x ∈ l, Sl encV w x.2.2.1.1 x.2.2.1.2 ∧ (Lit.int .i64 x.2.2.2.1).wf = true) (hE : Errs w A) (hT : TabW w) :
    Calls Tryd.prog 3 #[.int .u64 q, v] w fun e w' => e = .returned (.bool true) ∧ RowKit.Below w.heap.size w w' := by
  have HE := Lib.hid hE
  have HE7 := Lib.hid (er7_of hE)
  have HT := Lib.hid hT
  have HO := Lib.hid ho
  have C0 := Lib.hid (alive_any w HE7.out hT)
  obtain ⟨p0, c0, rfl, hc1, hc2, hc3⟩ := hv
  have HV := Lib.hid hc3
  clear hc3
  unfold maxLen at hc2
  clear hE hT ho
  go_enter Tryd.func3, Tryd.ntmps3
  go_wp2_with fail
  refine C0.out.mono ?_
  rintro e w1 ⟨rfl, hb1⟩
  have B1 := Lib.hid hb1
  clear hb1 C0
  by_cases h60 : 60 < l.length
  · go_wp2
    go_ret
    exact ⟨rfl, B1.out⟩
  by_cases hq : q < 1024
  case neg =>
    have C1 := Lib.hid (tnew_no q hq w1 (HE7.out.below B1.out))
    unfold errC at C1
    go_wp2_with fail
    refine C1.out.mono ?_
    rintro e w2 ⟨rfl, hb2⟩
    have B2 := Lib.hid (Bt B1.out hb2)
    have C2 := Lib.hid (num_any (HE.out.below B2.out) 4 (by decide))
    clear hb2 C1
    go_wp2_with fail
    refine C2.out.mono ?_
    rintro e w3 ⟨rfl, hb3⟩
    have B3 := Lib.hid (Bt B2.out hb3)
    clear hb3 C2
    go_wp2
    go_ret
    exact ⟨rfl, B3.out⟩
  have C1 := Lib.hid (tnew_yes q hq w1 (HT.out.below B1.out))
  have HQ := Lib.hid hq
  clear hq64
  go_wp2_with fail
  refine C1.out.mono ?_
  rintro e w2 ⟨pt, rfl, hT2, hb2⟩
  have B2 := Lib.hid (Bt B1.out hb2)
  have T2 := Lib.hid hT2
  have MB := Lib.hid (tmask_call hT2)
  have P3 := Lib.hid (PlO.made hT2 B1.out.size hb2.size)
  have B3 := Lib.hid (Bt B2.out (Ba (Below.refl _ w2) (.cells #[.int .u64 q, .slice none 0 0] RfTy)))
  clear hT2 hb2 C1
  go_wp2_with fail
  refine MB.out.mono ?_
  rintro e w3 ⟨rfl, rfl⟩
  clear MB T2
  go_wp2
  generalize w2.heap.size = pr at *
  go_loopw [5, 72] (fun s5 s72 wr => ∃ (k pt : Nat) (R : List En), s5 = ptP pt ∧ s72 = .int .i64 k ∧ k ≤ l.length ∧ Hid (PlO NoN w.heap.size wr pt pr q R R) ∧ Hid (RowKit.Below w.heap.size w wr)) (fun _ i _ => l.length - (intOf i).toNat)
  case atStart => exact ⟨0, pt, [], rfl, rfl, Nat.zero_le _, P3, B3⟩
  case round =>
    clear P3 B3 B2 B1
    obtain ⟨k, pt, R, rfl, rfl, hk, HP, HB⟩ := hrel
    by_cases hkn : k < l.length
    · obtain ⟨g, o, rfl, hg, cO⟩ := HV.out (by omega)
      obtain ⟨d0, d1, d2, d3, d4, d5, d6, d7, d8⟩ := atOp cO hkn
      obtain ⟨hrs, hkw⟩ := HO.out l[k]! (by rw [getElem!_pos l k hkn]; exact List.getElem_mem _)
      replace d0 := Bc HB.out hg d0
      replace d1 := Bc HB.out hg d1
      replace d2 := Bc HB.out hg d2
      replace d3 := Bc HB.out hg d3
      replace d4 := Bc HB.out hg d4
      replace d5 := Bc HB.out hg d5
      replace d6 := Bc HB.out hg d6
      replace d7 := Bc HB.out hg d7
      replace d8 := Bc HB.out hg d8
      clear cO
      generalize l[k]! = op at d0 d1 d2 d3 d4 d5 d6 d7 d8 hrs hkw
      obtain ⟨⟨kd, ix, nx⟩, ⟨h1, h2⟩, ⟨rv, rl⟩, x1, x2, x3⟩ := op
      dsimp only at d0 d1 d2 d3 d4 d5 d6 d7 d8 hrs hkw
      have HRS := Lib.hid hrs
      have HKW := Lib.hid hkw
      obtain ⟨p3, c3, rfl, q1, q2, _⟩ := hrs
      unfold maxLen at q2
      clear hkw
      obtain ⟨wq, rfl⟩ : ∃ wq : World, wq = wr := ⟨_, rfl⟩
      by_cases h30 : 30 < rl.length
      · have DX := Lib.hid (Ba HB.out (.cells #[.int .i64 kd, .int .i64 ix, .int .i64 nx, .int .i64 h1, .int .i64 h2, .slice p3 rl.length c3, .int .i64 x1, .int .i64 x2, .int .i64 x3] 43))
        go_wp2
        go_ret
        exact ⟨rfl, DX.out⟩
      obtain ⟨wo, hwo⟩ : ∃ wo, wo = wq.alloc (.cells #[.int .i64 kd, .int .i64 ix, .int .i64 nx, .int .i64 h1, .int .i64 h2, .slice p3 rl.length c3, .int .i64 x1, .int .i64 x2, .int .i64 x3] 43) := ⟨_, rfl⟩
      have bb := Lib.hid (show RowKit.Below wq.heap.size wq wo by rw [hwo]; exact Ba (Below.refl _ _) _)
      have PO := Lib.hid ((HP.out.off bb.out).forget (Z' := fun b => b = wq.heap.size) (fun b e => .inr ⟨by omega, by rw [e, hwo]; simp⟩))
      have BO := Lib.hid (Bt HB.out bb.out)
      have OB := Lib.hid (show wo.heap[wq.heap.size]? = some (OpB kd ix nx h1 h2 (.slice p3 rl.length c3) x1 x2 x3) by rw [hwo]; exact heap_alloc_new wq _)
      have HLB := Lib.hid HB.out.size
      clear bb HP HB
      go_upto_block 2 with fail
      rw [← hwo]
      clear hwo d0 d1 d2 d3 d4 d5 d6 d7 d8
      generalize wq.heap.size = ob at *
      go_cut [5, 10] (fun s5 s10 wx => ∃ (pt' : Nat) (R' : List En), s5 = ptP pt' ∧ s10 = .bool true ∧ Hid (PlO (fun b => b = ob) w.heap.size wx pt' pr q R' R') ∧ Hid (RowKit.Below w.heap.size w wx) ∧ Hid (wx.heap[ob]? = some (OpB kd ix nx h1 h2 (.slice p3 rl.length c3) x1 x2 x3)))
      case first =>
        by_cases g1' : kd = 1
        · subst g1'
          as_aux_lemma =>
            obtain ⟨z0, z1, z2, z3, z4, z5, z6, z7, z8⟩ := nine_cells OB.out
            have hobl := cell_lt z0
            go_upto_region 20 with fail
            go_cut [11] (fun s11 wx => ∃ tm : Nat, s11 = .int .i64 tm ∧ tm < 140 ∧ wx = wo)
            case first =>
              go_wp2
              go_meet
              exact ⟨1, rfl, by omega, rfl⟩
            case rest =>
              as_aux_lemma =>
                obtain ⟨tm, rfl, hht, rfl⟩ := hcut
                go_wp2_with fail
                clear z0 z1 z2 z3 z4 z5 z6 z7 z8 hobl
                go_loopw [94, 10] (fun s94 s10 wr => ∃ (i : Nat) (R : List En), s94 = .int .i64 i ∧ i ≤ tm ∧ s10 = .bool true ∧ Hid (PlO (fun b => b = ob) w.heap.size wr pt pr q R R) ∧ Hid (RowKit.Below w.heap.size w wr) ∧ Hid (wr.heap[ob]? = some (OpB 1 ix nx h1 h2 (.slice p3 rl.length c3) x1 x2 x3))) (fun i _ _ => tm - (intOf i).toNat)
                case atStart => exact ⟨0, R, rfl, Nat.zero_le _, rfl, PO, BO, OB⟩
                case round =>
                  clear PO BO OB
                  obtain ⟨i, R, rfl, hi, rfl, HP, HB, HOB⟩ := hrel
                  by_cases hin : i < tm
                  · obtain ⟨wp, rfl⟩ : ∃ wp : World, wp = wr := ⟨_, rfl⟩
                    obtain ⟨z0, z1, z2, z3, z4, z5, z6, z7, z8⟩ := nine_cells HOB.out
                    have hobl := cell_lt z0
                    have R1 := Lib.hid (HP.out.tab.choose_spec.size)
                    have O1 := Lib.hid (show (wp.alloc (.cells #[] 41)).ownsRow wp.heap.size 41 3 (.slice (some ⟨wp.heap.size, 0, none⟩) 0 0) ([] : List Vl).length (flat encV []) from World.ownsRow_made _ #[] 0 (Nat.le_refl _) (Nat.zero_le _) (by simp))
                    have b1 := Lib.hid (Ba (Below.refl _ wp) (.cells #[] 41))
                    have S1 := Lib.hid (HRS.out.below (Bt HB.out b1.out))
                    go_upto_region 26 with (at_builtin; refine wpl_app2 apV rfl _ _ rfl wp.heap.size (by rfl) (by rfl) O1.out rfl S1.out (by simp; omega) b1.out.size ?_; intro v4 w4 hown4 hgrow4 hat4 hnn4; clear hnn4; rw [List.nil_append] at hown4; have OW4 := Lib.hid hown4; have b4 := Lib.hid (grownB b1.out O1.out hgrow4); clear hown4 hgrow4 hat4)
                    obtain ⟨p4, c4, rfl, hcc1, hcc2, hcc3⟩ := row_val OW4.out
                    have HG4 := Lib.hid hcc3
                    unfold maxLen at hcc2
                    have B4 := Lib.hid (Bt HB.out b4.out)
                    have P4 := Lib.hid (HP.out.off b4.out)
                    have N4 := Lib.hid (SlN.lt (SlN.of lenV OW4.out rfl))
                    have HO4 := Lib.hid (blk_below HOB.out b4.out)
                    have CA := Lib.hid (addT P4.out h1 h2 rl _ N4.out (fun b e => .inr (.inr e)) (by omega) (HE7.out.below B4.out))
                    have CF := Lib.hid (fun (Z : Nat → Prop) (W : World) (v : Value) (h : PlO Z w.heap.size W pt pr q (addR q R (h1, h2) rl) R) (hv : Sl encV W v rl) => addF h h1 h2 rl v hv (by omega) R1.out)
                    have htn := Lib.hid (addN_le q R rl)
                    generalize addAt q R rl = ta at *
                    generalize addN q R rl = tn at *
                    generalize addR q R (h1, h2) rl = R9 at *
                    have HLP := Lib.hid hobl
                    clear hcc3 O1 b1 S1
                    clear z0 z1 z2 z3 z4 z5 z6 z7 z8 hobl
                    obtain ⟨z0, z1, z2, z3, z4, z5, z6, z7, z8⟩ := nine_cells HO4.out
                    have hobl := cell_lt z0
                    go_wp2_with fail
                    refine CA.out.mono ?_
                    rintro e w5 ⟨rfl, hP5, ht5⟩
                    have P5 := Lib.hid hP5
                    have B5 := Lib.hid (B4.out.trans (PlO.belowB ht5 B4.out.size))
                    have O5 := Lib.hid (ht5.blk HO4.out (fun e => e.2 (.inl rfl)))
                    have OW5 := Lib.hid (row_keep OW4.out (fun g hg => ht5.block g (row_lt OW4.out hg) (fun c => c.2 (.inr ⟨row_base OW4.out hg, row_lt OW4.out hg⟩))))
                    have CF5 := Lib.hid (CF.out _ _ _ P5.out (HRS.out.below B5.out))
                    clear hP5 ht5 CA CF
                    clear z0 z1 z2 z3 z4 z5 z6 z7 z8 hobl
                    obtain ⟨z0, z1, z2, z3, z4, z5, z6, z7, z8⟩ := nine_cells O5.out
                    have hobl := cell_lt z0
                    go_wp2_with fail
                    refine CF5.out.mono ?_
                    rintro e w6 ⟨rfl, hP6, ht6⟩
                    have P6 := Lib.hid hP6
                    have B6 := Lib.hid (B5.out.trans (PlO.belowB ht6 B5.out.size))
                    have O6 := Lib.hid (ht6.blk O5.out (fun e => e.2 (.inl rfl)))
                    have OW6 := Lib.hid (row_keep OW5.out (fun g hg => ht6.block g (row_lt OW5.out hg) (fun c => c.2 (.inr ⟨row_base OW5.out hg, row_lt OW4.out hg⟩))))
                    have CN := Lib.hid (numV_call (HE.out.below B6.out) tn htn.out)
                    have CS : Hid (∀ W, RowKit.Below w6.heap.size w6 W → Calls Tryd.prog 13 #[.slice p4 rl.length c4, .slice p3 rl.length c3] W fun e w' => e = .returned (.bool true) ∧ RowKit.Below W.heap.size W w') := fun W hb => (same_call rl rl _ _ W ((row_sl lenV OW6.out rfl).below hb) (HRS.out.below (Bt B6.out hb))).mono fun e w' ⟨a, b⟩ => ⟨by rw [a, decide_eq_true (rfl : rl = rl)], b.below⟩
                    clear hP6 ht6 CF5 P5 B5 OW5 P4 HP HOB
                    clear z0 z1 z2 z3 z4 z5 z6 z7 z8 hobl
                    obtain ⟨z0, z1, z2, z3, z4, z5, z6, z7, z8⟩ := nine_cells O6.out
                    have hobl := cell_lt z0
                    go_wp2_with fail
                    refine CN.out.mono ?_
                    rintro e w7 ⟨rfl, hb7⟩
                    have b7 := Lib.hid hb7
                    have CS7 := Lib.hid (CS.out _ hb7)
                    have O7 := Lib.hid (blk_below O6.out hb7)
                    clear CN CS hb7
                    clear z0 z1 z2 z3 z4 z5 z6 z7 z8 hobl
                    obtain ⟨z0, z1, z2, z3, z4, z5, z6, z7, z8⟩ := nine_cells O7.out
                    have hobl := cell_lt z0
                    go_wp2_with fail
                    refine CS7.out.mono ?_
                    rintro e w8 ⟨rfl, hb8⟩
                    have b8 := Lib.hid (Bt b7.out hb8)
                    have P8 := Lib.hid (P6.out.below b8.out)
                    have B8 := Lib.hid (Bt B6.out b8.out)
                    have O8 := Lib.hid (blk_below O6.out b8.out)
                    have OW8 := Lib.hid (row_keep OW6.out (fun g hg => b8.out.block g (row_lt OW6.out hg)))
                    have HZ8 := Lib.hid (HB.out.size)
                    clear CS7 hb8 b7 P6 B6 O7
                    clear z0 z1 z2 z3 z4 z5 z6 z7 z8 hobl
                    go_wp2
                    go_loopw [137] (fun s137 wr => ∃ (j : Nat) (l' : List Vl), s137 = .int .i64 j ∧ j ≤ rl.length ∧ l'.length = rl.length ∧ Hid (wr.ownsRow wp.heap.size 41 3 (.slice p4 rl.length c4) rl.length (flat encV l')) ∧ Hid (PlO (fun b => b = ob ∨ (wp.heap.size ≤ b ∧ b < w4.heap.size)) w.heap.size wr pt pr q R9 R9) ∧ Hid (RowKit.Below w.heap.size w wr) ∧ Hid (wr.heap[ob]? = some (OpB 1 ix nx h1 h2 (.slice p3 rl.length c3) x1 x2 x3))) (fun j _ => rl.length - (intOf j).toNat)
                    case atStart => exact ⟨0, rl, rfl, Nat.zero_le _, rfl, OW8, P8, B8, O8⟩
                    case round =>
                      clear OW8 P8 B8 O8
                      obtain ⟨j, l', rfl, hj, hl', HOW, HPj, HBj, HOj⟩ := hrel
                      by_cases hjn : j < rl.length
                      · obtain ⟨g4, rfl, hg4, hgo⟩ := HG4.out (by omega)
                        obtain ⟨⟨y0, y1, y2⟩, f0, f1, f2⟩ := rowV HOW.out (show j < l'.length by omega)
                        have hyl := cell_lt y0
                        have HG := Lib.hid (show wp.heap.size ≤ g4 ∧ g4 < w4.heap.size from ⟨row_base OW4.out hgo, hg4⟩)
                        have hst := Lib.hid (rowV_put HOW.out j (by omega) 99 0 0)
                        have ht : Tch (fun b => b = g4) wr ((((wr.setCell ⟨g4, j * 3, none⟩ (.int .i64 99)).setCell ⟨g4, j * 3 + 1, none⟩ (.int .i64 0)).setCell ⟨g4, j * 3 + 2, none⟩ (.int .i64 0))) := ((Tch.set (M := fun b => b = g4) wr (p := ⟨g4, j * 3, none⟩) rfl _).more (Tch.set (M := fun b => b = g4) _ (p := ⟨g4, j * 3 + 1, none⟩) rfl _)).more (Tch.set (M := fun b => b = g4) _ (p := ⟨g4, j * 3 + 2, none⟩) rfl _)
                        have P9 := Lib.hid (HPj.out.kept ht (fun b e => .inl (.inr (by rw [e]; exact HG.out))))
                        have B9 := Lib.hid (HBj.out.trans (ht.below (B := w.heap.size) (fun b e => by rw [e]; exact Nat.le_trans HZ8.out HG.out.1) HBj.out.size))
                        have O9 := Lib.hid (ht.blk HOj.out (fun e => by have h1 := HG.out; have h2 := HLP.out; omega))
                        clear ht
                        generalize l'[j]! = y at y0 y1 y2
                        obtain ⟨y4, y5, y6⟩ := y
                        dsimp only at y0 y1 y2
                        go_wp2
                        go_roundw
                        case measure => simp [intOf]; omega
                        case rel => exact ⟨j + 1, l'.set j (99, 0, 0), by go_num, by omega, by rw [List.length_set]; exact hl', hst, P9, B9, O9⟩
                      · have P9 := Lib.hid (HPj.out.forget (Z' := fun b => b = ob) (fun b e => .inl e))
                        go_wp2
                        go_roundw
                        case measure => simp [intOf]; omega
                        case rel => exact ⟨i + 1, R9, by go_num, by omega, rfl, P9, HBj, HOj⟩
                  · have P9 := Lib.hid HP.out
                    have B9 := Lib.hid HB.out
                    have O9 := Lib.hid HOB.out
                    go_wp2
                    go_meet
                    exact ⟨pt, R, rfl, rfl, P9, B9, O9⟩
        have k1 : (kd == 1) = false := by simpa using g1'
        by_cases h6 : kd = 6
        · subst h6
          clear g1' k1
          as_aux_lemma =>
            obtain ⟨z0, z1, z2, z3, z4, z5, z6, z7, z8⟩ := nine_cells OB.out
            have hobl := cell_lt z0
            obtain ⟨tm, hht, htz⟩ := idx_any nx 140 (by omega) (by omega)
            rw [show ((140 : Nat) : Int) = 140 from rfl] at htz
            go_upto_region 23 with fail
            simp only [htz]
            clear htz
            clear z0 z1 z2 z3 z4 z5 z6 z7 z8 hobl
            go_wp2
            go_loopw [94, 10] (fun s94 s10 wr => ∃ (i : Nat) (R : List En), s94 = .int .i64 i ∧ i ≤ tm ∧ s10 = .bool true ∧ Hid (PlO (fun b => b = ob) w.heap.size wr pt pr q R R) ∧ Hid (RowKit.Below w.heap.size w wr) ∧ Hid (wr.heap[ob]? = some (OpB 6 ix nx h1 h2 (.slice p3 rl.length c3) x1 x2 x3))) (fun i _ _ => tm - (intOf i).toNat)
            case atStart => exact ⟨0, R, rfl, Nat.zero_le _, rfl, PO, BO, OB⟩
            case round =>
              clear PO BO OB
              obtain ⟨i, R, rfl, hi, rfl, HP, HB, HOB⟩ := hrel
              by_cases hin : i < tm
              · obtain ⟨wp, rfl⟩ : ∃ wp : World, wp = wr := ⟨_, rfl⟩
                obtain ⟨z0, z1, z2, z3, z4, z5, z6, z7, z8⟩ := nine_cells HOB.out
                have hobl := cell_lt z0
                have R1 := Lib.hid (HP.out.tab.choose_spec.size)
                have O1 := Lib.hid (show (wp.alloc (.cells #[] 41)).ownsRow wp.heap.size 41 3 (.slice (some ⟨wp.heap.size, 0, none⟩) 0 0) ([] : List Vl).length (flat encV []) from World.ownsRow_made _ #[] 0 (Nat.le_refl _) (Nat.zero_le _) (by simp))
                have b1 := Lib.hid (Ba (Below.refl _ wp) (.cells #[] 41))
                have S1 := Lib.hid (HRS.out.below (Bt HB.out b1.out))
                go_upto_region 26 with (at_builtin; refine wpl_app2 apV rfl _ _ rfl wp.heap.size (by rfl) (by rfl) O1.out rfl S1.out (by simp; omega) b1.out.size ?_; intro v4 w4 hown4 hgrow4 hat4 hnn4; clear hnn4; rw [List.nil_append] at hown4; have OW4 := Lib.hid hown4; have b4 := Lib.hid (grownB b1.out O1.out hgrow4); clear hown4 hgrow4 hat4)
                obtain ⟨p4, c4, rfl, hcc1, hcc2, hcc3⟩ := row_val OW4.out
                have HG4 := Lib.hid hcc3
                unfold maxLen at hcc2
                have B4 := Lib.hid (Bt HB.out b4.out)
                have P4 := Lib.hid (HP.out.off b4.out)
                have N4 := Lib.hid (SlN.lt (SlN.of lenV OW4.out rfl))
                have HO4 := Lib.hid (blk_below HOB.out b4.out)
                have CA := Lib.hid (addT P4.out h1 h2 rl _ N4.out (fun b e => .inr (.inr e)) (by omega) (HE7.out.below B4.out))
                have CF := Lib.hid (fun (Z : Nat → Prop) (W : World) (v : Value) (h : PlO Z w.heap.size W pt pr q (addR q R (h1, h2) rl) R) (hv : Sl encV W v rl) => addF h h1 h2 rl v hv (by omega) R1.out)
                have htn := Lib.hid (addN_le q R rl)
                generalize addAt q R rl = ta at *
                generalize addN q R rl = tn at *
                generalize addR q R (h1, h2) rl = R9 at *
                have HLP := Lib.hid hobl
                clear hcc3 O1 b1 S1
                clear z0 z1 z2 z3 z4 z5 z6 z7 z8 hobl
                obtain ⟨z0, z1, z2, z3, z4, z5, z6, z7, z8⟩ := nine_cells HO4.out
                have hobl := cell_lt z0
                go_wp2_with fail
                refine CA.out.mono ?_
                rintro e w5 ⟨rfl, hP5, ht5⟩
                have P5 := Lib.hid hP5
                have B5 := Lib.hid (B4.out.trans (PlO.belowB ht5 B4.out.size))
                have O5 := Lib.hid (ht5.blk HO4.out (fun e => e.2 (.inl rfl)))
                have OW5 := Lib.hid (row_keep OW4.out (fun g hg => ht5.block g (row_lt OW4.out hg) (fun c => c.2 (.inr ⟨row_base OW4.out hg, row_lt OW4.out hg⟩))))
                have CF5 := Lib.hid (CF.out _ _ _ P5.out (HRS.out.below B5.out))
                clear hP5 ht5 CA CF
                clear z0 z1 z2 z3 z4 z5 z6 z7 z8 hobl
                obtain ⟨z0, z1, z2, z3, z4, z5, z6, z7, z8⟩ := nine_cells O5.out
                have hobl := cell_lt z0
                go_wp2_with fail
                refine CF5.out.mono ?_
                rintro e w6 ⟨rfl, hP6, ht6⟩
                have P6 := Lib.hid hP6
                have B6 := Lib.hid (B5.out.trans (PlO.belowB ht6 B5.out.size))
                have O6 := Lib.hid (ht6.blk O5.out (fun e => e.2 (.inl rfl)))
                have OW6 := Lib.hid (row_keep OW5.out (fun g hg => ht6.block g (row_lt OW5.out hg) (fun c => c.2 (.inr ⟨row_base OW5.out hg, row_lt OW4.out hg⟩))))
                have CN := Lib.hid (numV_call (HE.out.below B6.out) tn htn.out)
                have CS : Hid (∀ W, RowKit.Below w6.heap.size w6 W → Calls Tryd.prog 13 #[.slice p4 rl.length c4, .slice p3 rl.length c3] W fun e w' => e = .returned (.bool true) ∧ RowKit.Below W.heap.size W w') := fun W hb => (same_call rl rl _ _ W ((row_sl lenV OW6.out rfl).below hb) (HRS.out.below (Bt B6.out hb))).mono fun e w' ⟨a, b⟩ => ⟨by rw [a, decide_eq_true (rfl : rl = rl)], b.below⟩
                clear hP6 ht6 CF5 P5 B5 OW5 P4 HP HOB
                clear z0 z1 z2 z3 z4 z5 z6 z7 z8 hobl
                obtain ⟨z0, z1, z2, z3, z4, z5, z6, z7, z8⟩ := nine_cells O6.out
                have hobl := cell_lt z0
                go_wp2_with fail
                refine CN.out.mono ?_
                rintro e w7 ⟨rfl, hb7⟩
                have b7 := Lib.hid hb7
                have CS7 := Lib.hid (CS.out _ hb7)
                have O7 := Lib.hid (blk_below O6.out hb7)
                clear CN CS hb7
                clear z0 z1 z2 z3 z4 z5 z6 z7 z8 hobl
                obtain ⟨z0, z1, z2, z3, z4, z5, z6, z7, z8⟩ := nine_cells O7.out
                have hobl := cell_lt z0
                go_wp2_with fail
                refine CS7.out.mono ?_
                rintro e w8 ⟨rfl, hb8⟩
                have b8 := Lib.hid (Bt b7.out hb8)
                have P8 := Lib.hid (P6.out.below b8.out)
                have B8 := Lib.hid (Bt B6.out b8.out)
                have O8 := Lib.hid (blk_below O6.out b8.out)
                have OW8 := Lib.hid (row_keep OW6.out (fun g hg => b8.out.block g (row_lt OW6.out hg)))
                have HZ8 := Lib.hid (HB.out.size)
                clear CS7 hb8 b7 P6 B6 O7
                clear z0 z1 z2 z3 z4 z5 z6 z7 z8 hobl
                go_wp2
                go_loopw [137] (fun s137 wr => ∃ (j : Nat) (l' : List Vl), s137 = .int .i64 j ∧ j ≤ rl.length ∧ l'.length = rl.length ∧ Hid (wr.ownsRow wp.heap.size 41 3 (.slice p4 rl.length c4) rl.length (flat encV l')) ∧ Hid (PlO (fun b => b = ob ∨ (wp.heap.size ≤ b ∧ b < w4.heap.size)) w.heap.size wr pt pr q R9 R9) ∧ Hid (RowKit.Below w.heap.size w wr) ∧ Hid (wr.heap[ob]? = some (OpB 6 ix nx h1 h2 (.slice p3 rl.length c3) x1 x2 x3))) (fun j _ => rl.length - (intOf j).toNat)
                case atStart => exact ⟨0, rl, rfl, Nat.zero_le _, rfl, OW8, P8, B8, O8⟩
                case round =>
                  clear OW8 P8 B8 O8
                  obtain ⟨j, l', rfl, hj, hl', HOW, HPj, HBj, HOj⟩ := hrel
                  by_cases hjn : j < rl.length
                  · obtain ⟨g4, rfl, hg4, hgo⟩ := HG4.out (by omega)
                    obtain ⟨⟨y0, y1, y2⟩, f0, f1, f2⟩ := rowV HOW.out (show j < l'.length by omega)
                    have hyl := cell_lt y0
                    have HG := Lib.hid (show wp.heap.size ≤ g4 ∧ g4 < w4.heap.size from ⟨row_base OW4.out hgo, hg4⟩)
                    have hst := Lib.hid (rowV_put HOW.out j (by omega) 99 0 0)
                    have ht : Tch (fun b => b = g4) wr ((((wr.setCell ⟨g4, j * 3, none⟩ (.int .i64 99)).setCell ⟨g4, j * 3 + 1, none⟩ (.int .i64 0)).setCell ⟨g4, j * 3 + 2, none⟩ (.int .i64 0))) := ((Tch.set (M := fun b => b = g4) wr (p := ⟨g4, j * 3, none⟩) rfl _).more (Tch.set (M := fun b => b = g4) _ (p := ⟨g4, j * 3 + 1, none⟩) rfl _)).more (Tch.set (M := fun b => b = g4) _ (p := ⟨g4, j * 3 + 2, none⟩) rfl _)
                    have P9 := Lib.hid (HPj.out.kept ht (fun b e => .inl (.inr (by rw [e]; exact HG.out))))
                    have B9 := Lib.hid (HBj.out.trans (ht.below (B := w.heap.size) (fun b e => by rw [e]; exact Nat.le_trans HZ8.out HG.out.1) HBj.out.size))
                    have O9 := Lib.hid (ht.blk HOj.out (fun e => by have h1 := HG.out; have h2 := HLP.out; omega))
                    clear ht
                    generalize l'[j]! = y at y0 y1 y2
                    obtain ⟨y4, y5, y6⟩ := y
                    dsimp only at y0 y1 y2
                    go_wp2
                    go_roundw
                    case measure => simp [intOf]; omega
                    case rel => exact ⟨j + 1, l'.set j (99, 0, 0), by go_num, by omega, by rw [List.length_set]; exact hl', hst, P9, B9, O9⟩
                  · have P9 := Lib.hid (HPj.out.forget (Z' := fun b => b = ob) (fun b e => .inl e))
                    go_wp2
                    go_roundw
                    case measure => simp [intOf]; omega
                    case rel => exact ⟨i + 1, R9, by go_num, by omega, rfl, P9, HBj, HOj⟩
              · have P9 := Lib.hid HP.out
                have B9 := Lib.hid HB.out
                have O9 := Lib.hid HOB.out
                go_wp2
                go_meet
                exact ⟨pt, R, rfl, rfl, P9, B9, O9⟩
        have k6 : (kd == 6) = false := by simpa using h6
        by_cases g2' : kd = 2
        · subst g2'
          clear g1' k1 h6 k6
          as_aux_lemma =>
            obtain ⟨z0, z1, z2, z3, z4, z5, z6, z7, z8⟩ := nine_cells OB.out
            have hobl := cell_lt z0
            have CT := Lib.hid (takeT2 PO.out ix (HE7.out.below BO.out) (HT.out.below BO.out))
            have CF := Lib.hid (fun (Z : Nat → Prop) (W : World) (R1 : List En) (h : PlO Z w.heap.size W pt pr q R1 R) => takeF h ix)
            have htn := Lib.hid (takeN_le R ix)
            generalize entAt R ix = en at *
            generalize takeN R ix = tn at *
            generalize takeR R ix = R9 at *
            obtain ⟨⟨e1, e2⟩, el⟩ := en
            dsimp only at CT CF
            go_wp2_with fail
            refine CT.out.mono ?_
            rintro e w3 ⟨ve, ⟨rfl, hs3⟩, hP3, ht3⟩
            have S3 := Lib.hid hs3
            obtain ⟨pe, ce, rfl, hce1, hce2, _⟩ := hs3
            have bb := Lib.hid (Ba (Below.refl _ w3) (.cells #[.int .i64 e1, .int .i64 e2, .slice pe el.length ce] 51))
            have P4 := Lib.hid (hP3.off bb.out)
            have B3 := Lib.hid (BO.out.trans (PlO.belowB ht3 BO.out.size))
            have B4 := Lib.hid (Bt B3.out bb.out)
            have O3 := Lib.hid (ht3.blk OB.out (fun e => e.2 rfl))
            have O4 := Lib.hid (blk_below O3.out bb.out)
            have S4 := Lib.hid (S3.out.below bb.out)
            have X4 : Hid ((w3.alloc (.cells #[.int .i64 e1, .int .i64 e2, .slice pe el.length ce] 51)).heap[w3.heap.size]? = some (.cells #[.int .i64 e1, .int .i64 e2, .slice pe el.length ce] 51 (0, 0))) := heap_alloc_new w3 _
            have CF4 := Lib.hid (CF.out _ _ _ P4.out)
            have hs1 : w3.heap.size < (w3.alloc (.cells #[.int .i64 e1, .int .i64 e2, .slice pe el.length ce] 51)).heap.size := by simp
            have HS1 := Lib.hid hs1
            clear hP3 ht3 CT CF bb hs1
            clear z0 z1 z2 z3 z4 z5 z6 z7 z8 hobl
            obtain ⟨z0, z1, z2, z3, z4, z5, z6, z7, z8⟩ := nine_cells O3.out
            have hobl := cell_lt z0
            go_wp2_with fail
            refine CF4.out.mono ?_
            rintro e w5 ⟨⟨vf, rfl, hs5⟩, hP5, ht5⟩
            have S5 := Lib.hid hs5
            obtain ⟨pf, cf, rfl, _, _, _⟩ := hs5
            have P5 := Lib.hid (hP5.forget (Z' := fun b => b = ob) (fun b e => .inl (.inl e)))
            have B5 := Lib.hid (B4.out.trans (PlO.belowB ht5 B4.out.size))
            have O5 := Lib.hid (ht5.blk O4.out (fun e => e.2 (.inl (.inl rfl))))
            have S5a := Lib.hid (S4.out.kept ht5 (fun b e c => c.2 (.inl (.inr e))))
            have X5 := Lib.hid (ht5.blk X4.out (fun e => e.2 (.inr ⟨Nat.le_refl _, HS1.out⟩)))
            have bb := Lib.hid (Ba (Below.refl _ w5) (.cells #[.int .i64 e1, .int .i64 e2, .slice pf el.length cf] 51))
            have P6 := Lib.hid (P5.out.below bb.out)
            have B6 := Lib.hid (Bt B5.out bb.out)
            have O6 := Lib.hid (blk_below O5.out bb.out)
            have CS := Lib.hid (rsame_call e1 e2 e1 e2 el el (.slice pe el.length ce) (.slice pf el.length cf) (w5.alloc (.cells #[.int .i64 e1, .int .i64 e2, .slice pf el.length cf] 51)) (S5a.out.sl.below bb.out) (S5.out.below bb.out))
            rw [decide_eq_true (rfl : (e1, e2) = (e1, e2)), decide_eq_true (rfl : el = el), Bool.and_true] at CS
            clear hP5 ht5 CF4 bb
            clear z0 z1 z2 z3 z4 z5 z6 z7 z8 hobl
            obtain ⟨⟨y0, y1, y2⟩, _, _, _⟩ := three_cells X5.out
            have hyl := cell_lt y0
            have CN : Hid (∀ W, RowKit.Below w.heap.size w W → Calls Tryd.prog 9 #[errV A tn] W fun e w' => e = .returned (.int .i64 tn) ∧ RowKit.Below W.heap.size W w') := fun W hb => numV_call (HE.out.below hb) tn htn.out
            go_wp2_with fail
            refine CS.out.mono ?_
            rintro e w7 ⟨rfl, hg7⟩
            have P7 := Lib.hid (P6.out.below hg7.below)
            have B7 := Lib.hid (Bt B6.out hg7.below)
            have O7 := Lib.hid (blk_below O6.out hg7.below)
            have CN7 := Lib.hid (CN.out _ B7.out)
            clear hg7 CS CN y0 y1 y2 hyl
            go_wp2_with fail
            refine CN7.out.mono ?_
            rintro e w8 ⟨rfl, hb8⟩
            have P9 := Lib.hid (P7.out.below hb8)
            have B9 := Lib.hid (Bt B7.out hb8)
            have O9 := Lib.hid (blk_below O7.out hb8)
            clear hb8 CN7
            go_wp2
            go_meet
            exact ⟨pt, R9, rfl, rfl, P9, B9, O9⟩
        have k2 : (kd == 2) = false := by simpa using g2'
        by_cases h3 : kd = 3
        · subst h3
          clear g1' k1 h6 k6 g2' k2
          as_aux_lemma =>
            obtain ⟨z0, z1, z2, z3, z4, z5, z6, z7, z8⟩ := nine_cells OB.out
            have hobl := cell_lt z0
            have CT := Lib.hid (getT PO.out ix x1 HKW.out (HE7.out.below BO.out))
            have CF := Lib.hid (fun (Z : Nat → Prop) (W : World) (h : PlO Z w.heap.size W pt pr q R R) => getF h (PO.out.tab.choose_spec.ok) ix x1)
            have htn := Lib.hid (getN_le q R ix x1)
            generalize getV q R ix x1 = gv at *
            generalize getN q R ix x1 = tn at *
            obtain ⟨g1, g2, g3⟩ := gv
            unfold aggV at CT CF
            dsimp only at CT CF
            have eq1 := eqV_run g1 g2 g3 g1 g2 g3
            rw [decide_eq_true (rfl : (g1, g2, g3) = (g1, g2, g3))] at eq1
            have gd1 := gdV_run
            go_wp2_with fail
            refine CT.out.mono ?_
            rintro e w3 ⟨rfl, hb3⟩
            have bb := Lib.hid (Ba (Below.refl _ w3) (.cells #[.int .i64 g1, .int .i64 g2, .int .i64 g3] 41))
            have P4 := Lib.hid ((PO.out.below hb3).below bb.out)
            have B4 := Lib.hid (Bt (Bt BO.out hb3) bb.out)
            have O3 := Lib.hid (blk_below OB.out hb3)
            have O4 := Lib.hid (blk_below O3.out bb.out)
            have X4 : Hid ((w3.alloc (.cells #[.int .i64 g1, .int .i64 g2, .int .i64 g3] 41)).heap[w3.heap.size]? = some (.cells #[.int .i64 g1, .int .i64 g2, .int .i64 g3] 41 (0, 0))) := heap_alloc_new w3 _
            have CF4 := Lib.hid (CF.out _ _ P4.out)
            clear hb3 CT CF bb
            clear z0 z1 z2 z3 z4 z5 z6 z7 z8 hobl
            obtain ⟨z0, z1, z2, z3, z4, z5, z6, z7, z8⟩ := nine_cells O3.out
            have hobl := cell_lt z0
            go_wp2_with fail
            refine CF4.out.mono ?_
            rintro e w5 ⟨rfl, hb5⟩
            have bb := Lib.hid (Ba (Below.refl _ w5) (.cells #[.int .i64 g1, .int .i64 g2, .int .i64 g3] 41))
            have P6 := Lib.hid ((P4.out.below hb5).below bb.out)
            have B6 := Lib.hid (Bt (Bt B4.out hb5) bb.out)
            have O6 := Lib.hid (blk_below (blk_below O4.out hb5) bb.out)
            have X5 := Lib.hid (blk_below X4.out hb5)
            have CN := Lib.hid (numV_call (HE.out.below B6.out) tn htn.out)
            clear hb5 CF4 bb
            clear z0 z1 z2 z3 z4 z5 z6 z7 z8 hobl
            obtain ⟨⟨y0, y1, y2⟩, _, _, _⟩ := three_cells X5.out
            have hyl := cell_lt y0
            go_wp2_with fail
            refine CN.out.mono ?_
            rintro e w8 ⟨rfl, hb8⟩
            have P9 := Lib.hid (P6.out.below hb8)
            have B9 := Lib.hid (Bt B6.out hb8)
            have O9 := Lib.hid (blk_below O6.out hb8)
            clear hb8 CN y0 y1 y2 hyl
            go_wp2
            go_meet
            exact ⟨pt, R, rfl, rfl, P9, B9, O9⟩
        have k3 : (kd == 3) = false := by simpa using h3
        by_cases h4 : kd = 4
        · subst h4
          clear g1' k1 h6 k6 g2' k2 h3 k3
          as_aux_lemma =>
            obtain ⟨z0, z1, z2, z3, z4, z5, z6, z7, z8⟩ := nine_cells OB.out
            have hobl := cell_lt z0
            have CT := Lib.hid (setT (PO.out.below (Bd (Below.refl _ _))) ix x1 x2 x3 HKW.out (HE7.out.below (Bd BO.out)))
            have CF := Lib.hid (fun (Z : Nat → Prop) (W : World) (R1 : List En) (h : PlO Z w.heap.size W pt pr q R1 R) => setF h (PO.out.tab.choose_spec.ok) ix x1 x2 x3)
            have htn := Lib.hid (setN_le q R ix (x1, x2, x3))
            generalize setN q R ix (x1, x2, x3) = tn at *
            generalize setR q R ix (x1, x2, x3) = R9 at *
            clear z0 z1 z2 z3 z4 z5 z6 z7 z8 hobl
            have OD := Lib.hid (blk_below OB.out (Bd (Below.refl _ _)))
            go_wp2_with fail
            refine wp_region_held_drew (S := (fun W => W.cell? ⟨ob, 0, none⟩ = some (.int .i64 4) ∧ W.cell? ⟨ob, 1, none⟩ = some (.int .i64 ix) ∧ W.cell? ⟨ob, 2, none⟩ = some (.int .i64 nx) ∧ W.cell? ⟨ob, 3, none⟩ = some (.int .i64 h1) ∧ W.cell? ⟨ob, 4, none⟩ = some (.int .i64 h2) ∧ W.cell? ⟨ob, 5, none⟩ = some (.slice p3 rl.length c3) ∧ W.cell? ⟨ob, 6, none⟩ = some (.int .i64 x1) ∧ W.cell? ⟨ob, 7, none⟩ = some (.int .i64 x2) ∧ W.cell? ⟨ob, 8, none⟩ = some (.int .i64 x3))) (by kernel_rfl) (nine_cells OD.out) (fun hHeld => ?_)
            (refine wpAnyH_take (i := 0) (v := ?_) rfl (by kernel_rfl) (by kernel_rfl) (by kernel_rfl) (fun _ _ _ h => h) (Or.inl ⟨by rfl, ?rt⟩) (by assumption) ?_; case rt => (intro w hSw; (try dsimp only at hSw); go_simp; (try with_reducible rfl))); (try simp only [Act.put, List.getElem_toArray, List.getElem_cons_succ, List.getElem_cons_zero, List.setIfInBounds_toArray, List.set_cons_zero, List.set_cons_succ])
            (refine wpAnyH_take (i := 1) (v := ?_) rfl (by kernel_rfl) (by kernel_rfl) (by kernel_rfl) (fun _ _ _ h => h) (Or.inl ⟨by rfl, ?rt⟩) (by assumption) ?_; case rt => (intro w hSw; (try dsimp only at hSw); go_simp; (try with_reducible rfl))); (try simp only [Act.put, List.getElem_toArray, List.getElem_cons_succ, List.getElem_cons_zero, List.setIfInBounds_toArray, List.set_cons_zero, List.set_cons_succ])
            (refine wpAnyH_take (i := 2) (v := ?_) rfl (by kernel_rfl) (by kernel_rfl) (by kernel_rfl) (fun _ _ _ h => h) (Or.inl ⟨by rfl, ?rt⟩) (by assumption) ?_; case rt => (intro w hSw; (try dsimp only at hSw); go_simp; (try with_reducible rfl))); (try simp only [Act.put, List.getElem_toArray, List.getElem_cons_succ, List.getElem_cons_zero, List.setIfInBounds_toArray, List.set_cons_zero, List.set_cons_succ])
            (refine wpAnyH_take (i := 3) (v := ?_) rfl (by kernel_rfl) (by kernel_rfl) (by kernel_rfl) (fun _ _ _ h => h) (Or.inl ⟨by rfl, ?rt⟩) (by assumption) ?_; case rt => (intro w hSw; (try dsimp only at hSw); go_simp; (try with_reducible rfl))); (try simp only [Act.put, List.getElem_toArray, List.getElem_cons_succ, List.getElem_cons_zero, List.setIfInBounds_toArray, List.set_cons_zero, List.set_cons_succ])
            (refine wpAnyH_take (i := 4) (v := ?_) rfl (by kernel_rfl) (by kernel_rfl) (by kernel_rfl) (fun _ _ _ h => h) (Or.inl ⟨by rfl, ?rt⟩) (by assumption) ?_; case rt => (intro w hSw; (try dsimp only at hSw); go_simp; (try with_reducible rfl))); (try simp only [Act.put, List.getElem_toArray, List.getElem_cons_succ, List.getElem_cons_zero, List.setIfInBounds_toArray, List.set_cons_zero, List.set_cons_succ])
            (refine wpAnyH_take (i := 7) (v := ?_) rfl (by kernel_rfl) (by kernel_rfl) (by kernel_rfl) (fun _ _ _ h => h) (Or.inl ⟨by rfl, ?rt⟩) (by assumption) ?_; case rt => (intro w hSw; (try dsimp only at hSw); go_simp; (try with_reducible rfl))); (try simp only [Act.put, List.getElem_toArray, List.getElem_cons_succ, List.getElem_cons_zero, List.setIfInBounds_toArray, List.set_cons_zero, List.set_cons_succ])
            (refine wpAnyH_take (i := 8) (v := ?_) rfl (by kernel_rfl) (by kernel_rfl) (by kernel_rfl) (fun _ _ _ h => h) (Or.inl ⟨by rfl, ?rt⟩) (by assumption) ?_; case rt => (intro w hSw; (try dsimp only at hSw); go_simp; (try with_reducible rfl))); (try simp only [Act.put, List.getElem_toArray, List.getElem_cons_succ, List.getElem_cons_zero, List.setIfInBounds_toArray, List.set_cons_zero, List.set_cons_succ])
            (refine wpAnyH_take (i := 9) (v := ?_) rfl (by kernel_rfl) (by kernel_rfl) (by kernel_rfl) (fun _ _ _ h => h) (Or.inl ⟨by rfl, ?rt⟩) (by assumption) ?_; case rt => (intro w hSw; (try dsimp only at hSw); go_simp; (try with_reducible rfl))); (try simp only [Act.put, List.getElem_toArray, List.getElem_cons_succ, List.getElem_cons_zero, List.setIfInBounds_toArray, List.set_cons_zero, List.set_cons_succ])
            (refine wpAnyH_take (i := 10) (v := ?_) rfl (by kernel_rfl) (by kernel_rfl) (by kernel_rfl) (fun _ _ _ h => h) (Or.inl ⟨by rfl, ?rt⟩) (by assumption) ?_; case rt => (intro w hSw; (try dsimp only at hSw); go_simp; (try with_reducible rfl))); (try simp only [Act.put, List.getElem_toArray, List.getElem_cons_succ, List.getElem_cons_zero, List.setIfInBounds_toArray, List.set_cons_zero, List.set_cons_succ])
            (refine wpAnyH_take (i := 11) (v := ?_) rfl (by kernel_rfl) (by kernel_rfl) (by kernel_rfl) (fun _ _ _ h => h) (Or.inl ⟨by rfl, ?rt⟩) (by assumption) ?_; case rt => (intro w hSw; (try dsimp only at hSw); go_simp; (try with_reducible rfl))); (try simp only [Act.put, List.getElem_toArray, List.getElem_cons_succ, List.getElem_cons_zero, List.setIfInBounds_toArray, List.set_cons_zero, List.set_cons_succ])
            refine wpAnyH_ready (rs := [5]) (by kernel_rfl) (by simp) ?_
            refine AllReadyH.cons rfl (fun K hK => ?_) AllReadyH.nil
            go_simp
            refine (CT.out).mono ?_
            rintro e w3 ⟨rfl, hP3, ht3⟩
            have P3 := Lib.hid hP3
            have B3 := Lib.hid ((Bd BO.out).trans (PlO.belowB ht3 (Bd BO.out).size))
            have O3 := Lib.hid (ht3.blk OD.out (fun e => e.2 rfl))
            have CN := Lib.hid (numV_call (HE.out.below B3.out) tn htn.out)
            clear hP3 ht3 CT
            refine hK.out _ _ (nine_cells O3.out) (fun hHeld => ?_)
            clear hK K hHeld
            have hHeld := nine_cells O3.out
            (try simp only [Act.put, List.getElem_toArray, List.getElem_cons_succ, List.getElem_cons_zero, List.setIfInBounds_toArray, List.set_cons_zero, List.set_cons_succ])
            refine wpAnyH_ready (rs := [6]) (by kernel_rfl) (by simp) ?_
            refine AllReadyH.cons rfl (fun K hK => ?_) AllReadyH.nil
            go_simp
            refine (CN.out).mono ?_
            rintro e w4 ⟨rfl, hb4⟩
            have P4 := Lib.hid (P3.out.below hb4)
            have B4 := Lib.hid (Bt B3.out hb4)
            have O4 := Lib.hid (blk_below O3.out hb4)
            have CF4 := Lib.hid (CF.out _ _ _ P4.out)
            clear hb4 CN CF
            refine hK.out _ _ (nine_cells O4.out) (fun hHeld => ?_)
            clear hK K hHeld
            have hHeld := nine_cells O4.out
            (try simp only [Act.put, List.getElem_toArray, List.getElem_cons_succ, List.getElem_cons_zero, List.setIfInBounds_toArray, List.set_cons_zero, List.set_cons_succ])
            refine wpAnyH_ready (rs := [12]) (by kernel_rfl) (by simp) ?_
            refine AllReadyH.cons rfl (fun K hK => ?_) AllReadyH.nil
            go_simp
            refine (CF4.out).mono ?_
            rintro e w5 ⟨rfl, hP5, ht5⟩
            have P9 := Lib.hid hP5
            have B9 := Lib.hid (B4.out.trans (PlO.belowB ht5 B4.out.size))
            have O9 := Lib.hid (ht5.blk O4.out (fun e => e.2 rfl))
            clear hP5 ht5 CF4
            refine hK.out _ _ (nine_cells O9.out) (fun hHeld => ?_)
            clear hK K hHeld
            have hHeld := nine_cells O9.out
            (try simp only [Act.put, List.getElem_toArray, List.getElem_cons_succ, List.getElem_cons_zero, List.setIfInBounds_toArray, List.set_cons_zero, List.set_cons_succ])
            (refine wpAnyH_take (i := 13) (v := ?_) rfl (by kernel_rfl) (by kernel_rfl) (by kernel_rfl) (fun _ _ _ h => h) (Or.inl ⟨by rfl, ?rt⟩) (by assumption) ?_; case rt => (intro w hSw; (try dsimp only at hSw); go_simp; (try with_reducible rfl))); (try simp only [Act.put, List.getElem_toArray, List.getElem_cons_succ, List.getElem_cons_zero, List.setIfInBounds_toArray, List.set_cons_zero, List.set_cons_succ])
            (refine wpAnyH_take (i := 14) (v := ?_) rfl (by kernel_rfl) (by kernel_rfl) (by kernel_rfl) (fun _ _ _ h => h) (Or.inl ⟨by rfl, ?rt⟩) (by assumption) ?_; case rt => (intro w hSw; (try dsimp only at hSw); go_simp; (try with_reducible rfl))); (try simp only [Act.put, List.getElem_toArray, List.getElem_cons_succ, List.getElem_cons_zero, List.setIfInBounds_toArray, List.set_cons_zero, List.set_cons_succ])
            refine wpAnyH_done (by kernel_rfl) ?_ _
            clear hHeld
            go_wp2
            go_meet
            exact ⟨pt, R9, rfl, rfl, P9, B9, O9⟩
        have k4 : (kd == 4) = false := by simpa using h4
        by_cases h5 : kd = 5
        · subst h5
          clear g1' k1 h6 k6 g2' k2 h3 k3 h4 k4
          as_aux_lemma =>
            obtain ⟨z0, z1, z2, z3, z4, z5, z6, z7, z8⟩ := nine_cells OB.out
            have hobl := cell_lt z0
            have CL := Lib.hid (tclone_call PO.out.tab.choose_spec)
            go_wp2_with fail
            refine CL.out.mono ?_
            rintro e w3 ⟨pb, rfl, hT3, hb3⟩
            have B3 := Lib.hid (Bt BO.out hb3)
            have O3 := Lib.hid (blk_below OB.out hb3)
            have TK := Lib.hid (PO.out.clone hb3 hT3 (P := fun e => ∃ u, e = .returned (.tuple u)) (fun M hM => take_zero (HT.out.below B3.out) (HE7.out.below B3.out) hM))
            clear hT3 hb3 CL
            go_wp2_with fail
            refine TK.out.mono ?_
            rintro e w4 ⟨⟨u, rfl⟩, hP4, ht4⟩
            have P9 := Lib.hid hP4
            have B9 := Lib.hid (B3.out.trans (PlO.belowB ht4 B3.out.size))
            have O9 := Lib.hid (ht4.blk O3.out (fun e => e.2 rfl))
            clear hP4 ht4 TK
            go_wp2
            go_meet
            exact ⟨pb, R, rfl, rfl, P9, B9, O9⟩
        have k5 : (kd == 5) = false := by simpa using h5
        clear g1' h6 g2' h3 h4 h5
        obtain ⟨z0, z1, z2, z3, z4, z5, z6, z7, z8⟩ := nine_cells OB.out
        have hobl := cell_lt z0
        go_wp2
        go_meet
        exact ⟨pt, R, rfl, rfl, PO, BO, OB⟩
      case rest =>
        obtain ⟨pt, R, rfl, rfl, HP, HB, HOB⟩ := hcut
        obtain ⟨z0, z1, z2, z3, z4, z5, z6, z7, z8⟩ := nine_cells HOB.out
        have hobl := cell_lt z0
        obtain ⟨wz, rfl⟩ : ∃ wz : World, wz = wc := ⟨_, rfl⟩
        have hR128 := HP.out.tab.choose_spec.size
        have HR128 := Lib.hid hR128
        obtain ⟨p7, c7, hblk, hl7, hc7, _⟩ := HP.out.ref.choose_spec.open
        obtain ⟨y0, y1, _, _⟩ := two_cells hblk
        have hyl := cell_lt y1
        have CL : Hid (∀ W, RowKit.Below wz.heap.size wz W → Calls Tryd.prog 22 #[ptP pt] W fun e w' => e = .returned (.int .i64 R.length) ∧ RowKit.Below W.heap.size W w') := fun W hb => (tlen_call (HP.out.below hb).tab.choose_spec).mono fun e w' ⟨a, b⟩ => ⟨a, b ▸ Below.refl _ _⟩
        clear hblk
        clear z0 z1 z2 z3 z4 z5 z6 z7 z8 hobl
        go_wp2_with fail
        refine wp_region_held_drew (S := (fun w' => Below (wz).heap.size (wz) w' ∧ ∀ b_1 o, b_1 < (wz).heap.size → w'.cell? ⟨b_1, o, none⟩ = (wz).cell? ⟨b_1, o, none⟩)) (by kernel_rfl) (keep0 _) (fun hHeld => ?_)
        (refine wpAnyH_take (i := 0) (v := ?_) rfl (by kernel_rfl) (by kernel_rfl) (by kernel_rfl) (fun _ _ _ h => h) (Or.inl ⟨by rfl, ?rt⟩) (by assumption) ?_; case rt => (intro w hSw; (try dsimp only at hSw); go_simp; (try with_reducible rfl))); (try simp only [Act.put, List.getElem_toArray, List.getElem_cons_succ, List.getElem_cons_zero, List.setIfInBounds_toArray, List.set_cons_zero, List.set_cons_succ])
        (refine wpAnyH_take (i := 1) (v := ?_) rfl (by kernel_rfl) (by kernel_rfl) (by kernel_rfl) (fun _ _ _ h => h) (Or.inl ⟨by rfl, ?rt⟩) (by assumption) ?_; case rt => (intro w hSw; (try dsimp only at hSw); go_simp; (try with_reducible rfl))); (try simp only [Act.put, List.getElem_toArray, List.getElem_cons_succ, List.getElem_cons_zero, List.setIfInBounds_toArray, List.set_cons_zero, List.set_cons_succ])
        (refine wpAnyH_take (i := 2) (v := ?_) rfl (by kernel_rfl) (by kernel_rfl) (by kernel_rfl) (fun _ _ _ h => h) (Or.inl ⟨by rfl, ?rt⟩) (by assumption) ?_; case rt => (intro w hSw; (try dsimp only at hSw); go_simp; (try with_reducible rfl))); (try simp only [Act.put, List.getElem_toArray, List.getElem_cons_succ, List.getElem_cons_zero, List.setIfInBounds_toArray, List.set_cons_zero, List.set_cons_succ])
        (refine wpAnyH_take (i := 3) (v := ?_) rfl (by kernel_rfl) (by kernel_rfl) (by kernel_rfl) (fun _ _ _ h => h) (Or.inl ⟨by rfl, ?rt⟩) (by assumption) ?_; case rt => (intro w hSw; (try dsimp only at hSw); go_simp; (try with_reducible rfl))); (try simp only [Act.put, List.getElem_toArray, List.getElem_cons_succ, List.getElem_cons_zero, List.setIfInBounds_toArray, List.set_cons_zero, List.set_cons_succ])
        (refine wpAnyH_take (i := 5) (v := ?_) rfl (by kernel_rfl) (by kernel_rfl) (by kernel_rfl) (fun _ _ _ h => h) (Or.inl ⟨by rfl, ?rt⟩) (by assumption) ?_; case rt => (intro w hSw; (try dsimp only at hSw); go_simp; (try with_reducible rfl))); (try simp only [Act.put, List.getElem_toArray, List.getElem_cons_succ, List.getElem_cons_zero, List.setIfInBounds_toArray, List.set_cons_zero, List.set_cons_succ])
        (refine wpAnyH_take (i := 6) (v := ?_) rfl (by kernel_rfl) (by kernel_rfl) (by kernel_rfl) (fun _ _ _ h => h) (Or.inl ⟨by rfl, ?rt⟩) (by assumption) ?_; case rt => (intro w hSw; (try dsimp only at hSw); go_simp; (try with_reducible rfl))); (try simp only [Act.put, List.getElem_toArray, List.getElem_cons_succ, List.getElem_cons_zero, List.setIfInBounds_toArray, List.set_cons_zero, List.set_cons_succ])
        (refine wpAnyH_take (i := 7) (v := ?_) rfl (by kernel_rfl) (by kernel_rfl) (by kernel_rfl) (fun _ _ _ h => h) (Or.inl ⟨by rfl, ?rt⟩) (by assumption) ?_; case rt => (intro w hSw; (try dsimp only at hSw); go_simp; (try with_reducible rfl))); (try simp only [Act.put, List.getElem_toArray, List.getElem_cons_succ, List.getElem_cons_zero, List.setIfInBounds_toArray, List.set_cons_zero, List.set_cons_succ])
        (refine wpAnyH_take (i := 8) (v := ?_) rfl (by kernel_rfl) (by kernel_rfl) (by kernel_rfl) (fun _ _ _ h => h) (Or.inl ⟨by rfl, ?rt⟩) (by assumption) ?_; case rt => (intro w hSw; (try dsimp only at hSw); go_simp; (try with_reducible rfl))); (try simp only [Act.put, List.getElem_toArray, List.getElem_cons_succ, List.getElem_cons_zero, List.setIfInBounds_toArray, List.set_cons_zero, List.set_cons_succ])
        (refine wpAnyH_take (i := 9) (v := ?_) rfl (by kernel_rfl) (by kernel_rfl) (by kernel_rfl) (fun _ _ _ h => h) (Or.inl ⟨by rfl, ?rt⟩) (by assumption) ?_; case rt => (intro w hSw; (try dsimp only at hSw); go_simp; (try with_reducible rfl))); (try simp only [Act.put, List.getElem_toArray, List.getElem_cons_succ, List.getElem_cons_zero, List.setIfInBounds_toArray, List.set_cons_zero, List.set_cons_succ])
        (refine wpAnyH_ready (rs := [4]) (by kernel_rfl) (by simp) ?_; refine AllReadyH.cons rfl (fun K hK => ?_) AllReadyH.nil; go_simp; refine (CL.out _ hHeld.1).mono ?_; rintro e w1 ⟨rfl, hb1⟩; refine hK.out _ _ (keepB (by assumption) hb1) (fun hHeld => ?_); clear hK K); (try simp only [Act.put, List.getElem_toArray, List.getElem_cons_succ, List.getElem_cons_zero, List.setIfInBounds_toArray, List.set_cons_zero, List.set_cons_succ])
        (refine wpAnyH_take (i := 10) (v := ?_) rfl (by kernel_rfl) (by kernel_rfl) (by kernel_rfl) (fun _ _ _ h => h) (Or.inl ⟨by rfl, ?rt⟩) (by assumption) ?_; case rt => (intro w hSw; (try dsimp only at hSw); go_simp; (try with_reducible rfl))); (try simp only [Act.put, List.getElem_toArray, List.getElem_cons_succ, List.getElem_cons_zero, List.setIfInBounds_toArray, List.set_cons_zero, List.set_cons_succ])
        (refine wpAnyH_take (i := 11) (v := ?_) rfl (by kernel_rfl) (by kernel_rfl) (by kernel_rfl) (fun _ _ _ h => h) (Or.inl ⟨by rfl, ?rt⟩) (by assumption) ?_; case rt => (intro w hSw; (try dsimp only at hSw); go_simp; (try with_reducible rfl))); (try simp only [Act.put, List.getElem_toArray, List.getElem_cons_succ, List.getElem_cons_zero, List.setIfInBounds_toArray, List.set_cons_zero, List.set_cons_succ])
        refine wpAnyH_done (by kernel_rfl) ?_ _
        have P1 := Lib.hid (HP.out.below hHeld.1)
        have B1 := Lib.hid (Bt HB.out hHeld.1)
        have O1 := Lib.hid (blk_below HOB.out hHeld.1)
        have CH := Lib.hid (thandles_call P1.out.tab.choose_spec)
        clear hHeld hb1 CL y0 y1 hyl hl7 hc7
        go_wp2_with fail
        refine CH.out.mono ?_
        rintro e w2 ⟨vh, rfl, hs2, hb2⟩
        have P2 := Lib.hid (P1.out.below hb2)
        have B2 := Lib.hid (Bt B1.out hb2)
        have O2 := Lib.hid (blk_below O1.out hb2)
        have S2 := Lib.hid hs2
        obtain ⟨ph, ch, rfl, hch1, hch2, hch3⟩ := hs2
        have SH := Lib.hid hch3
        unfold maxLen at hch2
        rw [List.length_map] at hch1 ⊢
        clear hch3 hb2 CH P1 B1 O1 HP HB HOB
        obtain ⟨p8, c8, hblk, hl8, hc8, _⟩ := P2.out.ref.choose_spec.open
        have HBLK := Lib.hid hblk
        obtain ⟨y0, y1, _, _⟩ := two_cells hblk
        have hyl := cell_lt y1
        clear hblk
        go_wp2
        clear y0 y1 hyl
        go_loopw [244] (fun s244 wr => ∃ i : Nat, s244 = .int .i64 i ∧ i ≤ R.length ∧ Hid (RowKit.Below w2.heap.size w2 wr)) (fun i _ => R.length - (intOf i).toNat)
        case atStart => exact ⟨0, rfl, Nat.zero_le _, Lib.hid (Below.refl _ _)⟩
        case round =>
          obtain ⟨i, rfl, hi, HBi⟩ := hrel
          by_cases hin : i < R.length
          · as_aux_lemma =>
              have HPr := Lib.hid (P2.out.below HBi.out)
              obtain ⟨g7, sp, cs, rfl, hg7, y0, y1, y2, hS, hs1, hs2⟩ := HPr.out.ref.choose_spec.at (blk_below HBLK.out HBi.out) hin
              have HS := Lib.hid hS
              have CE : Hid (∀ W, RowKit.Below wr.heap.size wr W → Calls Tryd.prog 24 #[ptP pt, .int .i64 i] W fun e w' => ∃ v, e = .returned (.tuple #[.agg #[.int .i64 R[i]!.1.1, .int .i64 R[i]!.1.2, v], .nilIface]) ∧ w'.ownsRow W.heap.size 41 3 v R[i]!.2.length (flat encV R[i]!.2) ∧ RowKit.Below W.heap.size W w') := fun W hb => tent_yes (HPr.out.below hb).tab.choose_spec i hin (HT.out.below (Bt (Bt B2.out HBi.out) hb))
              have CD : Hid (∀ W, RowKit.Below wr.heap.size wr W → Calls Tryd.prog 25 #[ptP pt, .int .i64 i] W fun e w' => e = .returned (.tuple #[aggH R[i]!.1, .nilIface]) ∧ RowKit.Below W.heap.size W w') := fun W hb => thandle_yes (HPr.out.below hb).tab.choose_spec i hin
              obtain ⟨g9, o9, rfl, hg9, hc9⟩ := SH.out (by rw [List.length_map]; omega)
              obtain ⟨v0, v1⟩ := atH hc9 (show i < (R.map fun r => r.1).length by rw [List.length_map]; exact hin)
              have hmap : (R.map fun r => r.1)[i]! = R[i]!.1 := by rw [getElem!_pos _ _ (by rw [List.length_map]; exact hin), List.getElem_map, ← getElem!_pos R i hin]
              rw [hmap] at v0 v1
              have V0 := Lib.hid (Bc HBi.out hg9 v0)
              have V1 := Lib.hid (Bc HBi.out hg9 v1)
              clear hS hc9 v0 v1 hmap
              have HH9 : Hid (g9 < wr.heap.size) := Nat.lt_of_lt_of_le hg9 HBi.out.size
              generalize R[i]! = en at CE CD HS V0 V1 y0 y1 y2 hs1
              obtain ⟨⟨e1, e2⟩, el⟩ := en
              unfold aggH at CD
              dsimp only at CE CD HS V0 V1 y0 y1 y2 hs1
              have bb1 := Lib.hid (Ba (Below.refl _ wr) (.cells #[.int .i64 e1, .int .i64 e2, .slice sp el.length cs] 51))
              have CE1 := Lib.hid (CE.out _ bb1.out)
              go_wp2_with fail
              refine CE1.out.mono ?_
              rintro e w4 ⟨ve, rfl, ho4, hb4⟩
              have S4 := Lib.hid (row_sl lenV ho4 rfl)
              obtain ⟨pe, ce, rfl, hce1, hce2, _⟩ := row_val ho4
              have b4 := Lib.hid (Bt bb1.out hb4)
              have X1 := Lib.hid (blk_below (heap_alloc_new wr (.cells #[.int .i64 e1, .int .i64 e2, .slice sp el.length cs] 51)) hb4)
              have bb2 := Lib.hid (Bt b4.out (Ba (Below.refl _ w4) (.cells #[.int .i64 e1, .int .i64 e2, .slice pe el.length ce] 51)))
              have CD2 := Lib.hid (CD.out _ bb2.out)
              clear ho4 hb4 CE1 CE CD y0 y1 y2
              go_wp2_with fail
              refine CD2.out.mono ?_
              rintro e w6 ⟨rfl, hb6⟩
              obtain ⟨W7, hW7⟩ : ∃ W7, W7 = w6.alloc (.cells #[.int .i64 e1, .int .i64 e2] 38) := ⟨_, rfl⟩
              have bb7 := Lib.hid (show RowKit.Below w6.heap.size w6 W7 by rw [hW7]; exact Ba (Below.refl _ w6) _)
              have b7 := Lib.hid (Bt (Bt bb2.out hb6) bb7.out)
              have b47 := Lib.hid (Bt (Bt (Ba (Below.refl _ w4) (.cells #[.int .i64 e1, .int .i64 e2, .slice pe el.length ce] 51)) hb6) bb7.out)
              obtain ⟨⟨x10, x11, x12⟩, _, _, _⟩ := three_cells (show W7.heap[wr.heap.size]? = some (.cells #[.int .i64 e1, .int .i64 e2, .slice sp el.length cs] 51 (0, 0)) from blk_below X1.out b47.out)
              obtain ⟨⟨x20, x21, x22⟩, _, _, _⟩ := three_cells (show W7.heap[w4.heap.size]? = some (.cells #[.int .i64 e1, .int .i64 e2, .slice pe el.length ce] 51 (0, 0)) from blk_below (heap_alloc_new w4 (.cells #[.int .i64 e1, .int .i64 e2, .slice pe el.length ce] 51)) (Bt hb6 bb7.out))
              obtain ⟨x30, x31, _, _⟩ := two_cells (show W7.heap[w6.heap.size]? = some (.cells #[.int .i64 e1, .int .i64 e2] 38 (0, 0)) by rw [hW7]; exact heap_alloc_new w6 _)
              have v0 := Bc b7.out HH9.out V0.out
              have v1 := Bc b7.out HH9.out V1.out
              have l1 := cell_lt x10
              have l2 := cell_lt x20
              have l3 := cell_lt x30
              have l9 := cell_lt v0
              have CS : Hid (∀ W, RowKit.Below W7.heap.size W7 W → Calls Tryd.prog 16 #[.agg #[.int .i64 e1, .int .i64 e2, .slice pe el.length ce], .agg #[.int .i64 e1, .int .i64 e2, .slice sp el.length cs]] W fun e w' => e = .returned (.bool true) ∧ RowKit.Below W.heap.size W w') := fun W hb => (rsame_call e1 e2 e1 e2 el el _ _ W (S4.out.below (Bt b47.out hb)) (HS.out.below (Bt b7.out hb))).mono fun e w' ⟨a, b⟩ => ⟨by rw [a, decide_eq_true (rfl : (e1, e2) = (e1, e2)), decide_eq_true (rfl : el = el), Bool.and_true], b.below⟩
              have ne1 := neH_run e1 e2 e1 e2
              rw [decide_eq_true (rfl : (e1, e2) = (e1, e2)), Bool.not_true] at ne1
              have gd1 := gdH_run
              clear hb6 CD2 bb7 X1
              go_wp2_with fail
              rw [← hW7]
              clear hW7
              refine wp_region_held_drew (S := (fun w' => Below (W7).heap.size (W7) w' ∧ ∀ b_1 o, b_1 < (W7).heap.size → w'.cell? ⟨b_1, o, none⟩ = (W7).cell? ⟨b_1, o, none⟩)) (by kernel_rfl) (keep0 _) (fun hHeld => ?_)
              (refine wpAnyH_take (i := 0) (v := ?_) rfl (by kernel_rfl) (by kernel_rfl) (by kernel_rfl) (fun _ _ _ h => h) (Or.inl ⟨by rfl, ?rt⟩) (by assumption) ?_; case rt => (intro w hSw; (try dsimp only at hSw); go_simp; (try with_reducible rfl))); (try simp only [Act.put, List.getElem_toArray, List.getElem_cons_succ, List.getElem_cons_zero, List.setIfInBounds_toArray, List.set_cons_zero, List.set_cons_succ])
              (refine wpAnyH_take (i := 1) (v := ?_) rfl (by kernel_rfl) (by kernel_rfl) (by kernel_rfl) (fun _ _ _ h => h) (Or.inl ⟨by rfl, ?rt⟩) (by assumption) ?_; case rt => (intro w hSw; (try dsimp only at hSw); go_simp; (try with_reducible rfl))); (try simp only [Act.put, List.getElem_toArray, List.getElem_cons_succ, List.getElem_cons_zero, List.setIfInBounds_toArray, List.set_cons_zero, List.set_cons_succ])
              (refine wpAnyH_take (i := 2) (v := ?_) rfl (by kernel_rfl) (by kernel_rfl) (by kernel_rfl) (fun _ _ _ h => h) (Or.inl ⟨by rfl, ?rt⟩) (by assumption) ?_; case rt => (intro w hSw; (try dsimp only at hSw); go_simp; (try with_reducible rfl))); (try simp only [Act.put, List.getElem_toArray, List.getElem_cons_succ, List.getElem_cons_zero, List.setIfInBounds_toArray, List.set_cons_zero, List.set_cons_succ])
              (refine wpAnyH_take (i := 3) (v := ?_) rfl (by kernel_rfl) (by kernel_rfl) (by kernel_rfl) (fun _ _ _ h => h) (Or.inl ⟨by rfl, ?rt⟩) (by assumption) ?_; case rt => (intro w hSw; (try dsimp only at hSw); go_simp; (try with_reducible rfl))); (try simp only [Act.put, List.getElem_toArray, List.getElem_cons_succ, List.getElem_cons_zero, List.setIfInBounds_toArray, List.set_cons_zero, List.set_cons_succ])
              (refine wpAnyH_take (i := 4) (v := ?_) rfl (by kernel_rfl) (by kernel_rfl) (by kernel_rfl) (fun _ _ _ h => h) (Or.inl ⟨by rfl, ?rt⟩) (by assumption) ?_; case rt => (intro w hSw; (try dsimp only at hSw); go_simp; (try with_reducible rfl))); (try simp only [Act.put, List.getElem_toArray, List.getElem_cons_succ, List.getElem_cons_zero, List.setIfInBounds_toArray, List.set_cons_zero, List.set_cons_succ])
              (refine wpAnyH_take (i := 5) (v := ?_) rfl (by kernel_rfl) (by kernel_rfl) (by kernel_rfl) (fun _ _ _ h => h) (Or.inl ⟨by rfl, ?rt⟩) (by assumption) ?_; case rt => (intro w hSw; (try dsimp only at hSw); go_simp; (try with_reducible rfl))); (try simp only [Act.put, List.getElem_toArray, List.getElem_cons_succ, List.getElem_cons_zero, List.setIfInBounds_toArray, List.set_cons_zero, List.set_cons_succ])
              (refine wpAnyH_take (i := 6) (v := ?_) rfl (by kernel_rfl) (by kernel_rfl) (by kernel_rfl) (fun _ _ _ h => h) (Or.inl ⟨by rfl, ?rt⟩) (by assumption) ?_; case rt => (intro w hSw; (try dsimp only at hSw); go_simp; (try with_reducible rfl))); (try simp only [Act.put, List.getElem_toArray, List.getElem_cons_succ, List.getElem_cons_zero, List.setIfInBounds_toArray, List.set_cons_zero, List.set_cons_succ])
              (refine wpAnyH_take (i := 7) (v := ?_) rfl (by kernel_rfl) (by kernel_rfl) (by kernel_rfl) (fun _ _ _ h => h) (Or.inl ⟨by rfl, ?rt⟩) (by assumption) ?_; case rt => (intro w hSw; (try dsimp only at hSw); go_simp; (try with_reducible rfl))); (try simp only [Act.put, List.getElem_toArray, List.getElem_cons_succ, List.getElem_cons_zero, List.setIfInBounds_toArray, List.set_cons_zero, List.set_cons_succ])
              (refine wpAnyH_take (i := 8) (v := ?_) rfl (by kernel_rfl) (by kernel_rfl) (by kernel_rfl) (fun _ _ _ h => h) (Or.inl ⟨by rfl, ?rt⟩) (by assumption) ?_; case rt => (intro w hSw; (try dsimp only at hSw); go_simp; (try with_reducible rfl))); (try simp only [Act.put, List.getElem_toArray, List.getElem_cons_succ, List.getElem_cons_zero, List.setIfInBounds_toArray, List.set_cons_zero, List.set_cons_succ])
              (refine wpAnyH_ready (rs := [9]) (by kernel_rfl) (by simp) ?_; refine AllReadyH.cons rfl (fun K hK => ?_) AllReadyH.nil; go_simp; refine (CS.out _ hHeld.1).mono ?_; rintro e w1 ⟨rfl, hb1⟩; refine hK.out _ _ (keepB (by assumption) hb1) (fun hHeld => ?_); clear hK K); (try simp only [Act.put, List.getElem_toArray, List.getElem_cons_succ, List.getElem_cons_zero, List.setIfInBounds_toArray, List.set_cons_zero, List.set_cons_succ])
              (refine wpAnyH_take (i := 10) (v := ?_) rfl (by kernel_rfl) (by kernel_rfl) (by kernel_rfl) (fun _ _ _ h => h) (Or.inl ⟨by rfl, ?rt⟩) (by assumption) ?_; case rt => (intro w hSw; (try dsimp only at hSw); go_simp; (try with_reducible rfl))); (try simp only [Act.put, List.getElem_toArray, List.getElem_cons_succ, List.getElem_cons_zero, List.setIfInBounds_toArray, List.set_cons_zero, List.set_cons_succ])
              (refine wpAnyH_take (i := 11) (v := ?_) rfl (by kernel_rfl) (by kernel_rfl) (by kernel_rfl) (fun _ _ _ h => h) (Or.inl ⟨by rfl, ?rt⟩) (by assumption) ?_; case rt => (intro w hSw; (try dsimp only at hSw); go_simp; (try with_reducible rfl))); (try simp only [Act.put, List.getElem_toArray, List.getElem_cons_succ, List.getElem_cons_zero, List.setIfInBounds_toArray, List.set_cons_zero, List.set_cons_succ])
              (refine wpAnyH_take (i := 12) (v := ?_) rfl (by kernel_rfl) (by kernel_rfl) (by kernel_rfl) (fun _ _ _ h => h) (Or.inl ⟨by rfl, ?rt⟩) (by assumption) ?_; case rt => (intro w hSw; (try dsimp only at hSw); go_simp; (try with_reducible rfl))); (try simp only [Act.put, List.getElem_toArray, List.getElem_cons_succ, List.getElem_cons_zero, List.setIfInBounds_toArray, List.set_cons_zero, List.set_cons_succ])
              (refine wpAnyH_take (i := 13) (v := ?_) rfl (by kernel_rfl) (by kernel_rfl) (by kernel_rfl) (fun _ _ _ h => h) (Or.inl ⟨by rfl, ?rt⟩) (by assumption) ?_; case rt => (intro w hSw; (try dsimp only at hSw); go_simp; (try with_reducible rfl))); (try simp only [Act.put, List.getElem_toArray, List.getElem_cons_succ, List.getElem_cons_zero, List.setIfInBounds_toArray, List.set_cons_zero, List.set_cons_succ])
              (refine wpAnyH_take (i := 14) (v := ?_) rfl (by kernel_rfl) (by kernel_rfl) (by kernel_rfl) (fun _ _ _ h => h) (Or.inl ⟨by rfl, ?rt⟩) (by assumption) ?_; case rt => (intro w hSw; (try dsimp only at hSw); go_simp; (try with_reducible rfl))); (try simp only [Act.put, List.getElem_toArray, List.getElem_cons_succ, List.getElem_cons_zero, List.setIfInBounds_toArray, List.set_cons_zero, List.set_cons_succ])
              (refine wpAnyH_take (i := 15) (v := ?_) rfl (by kernel_rfl) (by kernel_rfl) (by kernel_rfl) (fun _ _ _ h => h) (Or.inl ⟨by rfl, ?rt⟩) (by assumption) ?_; case rt => (intro w hSw; (try dsimp only at hSw); go_simp; (try with_reducible rfl))); (try simp only [Act.put, List.getElem_toArray, List.getElem_cons_succ, List.getElem_cons_zero, List.setIfInBounds_toArray, List.set_cons_zero, List.set_cons_succ])
              (refine wpAnyH_take (i := 16) (v := ?_) rfl (by kernel_rfl) (by kernel_rfl) (by kernel_rfl) (fun _ _ _ h => h) (Or.inl ⟨by rfl, ?rt⟩) (by assumption) ?_; case rt => (intro w hSw; (try dsimp only at hSw); go_simp; (try with_reducible rfl))); (try simp only [Act.put, List.getElem_toArray, List.getElem_cons_succ, List.getElem_cons_zero, List.setIfInBounds_toArray, List.set_cons_zero, List.set_cons_succ])
              (refine wpAnyH_take (i := 17) (v := ?_) rfl (by kernel_rfl) (by kernel_rfl) (by kernel_rfl) (fun _ _ _ h => h) (Or.inl ⟨by rfl, ?rt⟩) (by assumption) ?_; case rt => (intro w hSw; (try dsimp only at hSw); go_simp; (try with_reducible rfl))); (try simp only [Act.put, List.getElem_toArray, List.getElem_cons_succ, List.getElem_cons_zero, List.setIfInBounds_toArray, List.set_cons_zero, List.set_cons_succ])
              (refine wpAnyH_take (i := 18) (v := ?_) rfl (by kernel_rfl) (by kernel_rfl) (by kernel_rfl) (fun _ _ _ h => h) (Or.inl ⟨by rfl, ?rt⟩) (by assumption) ?_; case rt => (intro w hSw; (try dsimp only at hSw); go_simp; (try with_reducible rfl))); (try simp only [Act.put, List.getElem_toArray, List.getElem_cons_succ, List.getElem_cons_zero, List.setIfInBounds_toArray, List.set_cons_zero, List.set_cons_succ])
              (refine wpAnyH_take (i := 19) (v := ?_) rfl (by kernel_rfl) (by kernel_rfl) (by kernel_rfl) (fun _ _ _ h => h) (Or.inl ⟨by rfl, ?rt⟩) (by assumption) ?_; case rt => (intro w hSw; (try dsimp only at hSw); go_simp; (try with_reducible rfl))); (try simp only [Act.put, List.getElem_toArray, List.getElem_cons_succ, List.getElem_cons_zero, List.setIfInBounds_toArray, List.set_cons_zero, List.set_cons_succ])
              (refine wpAnyH_take (i := 20) (v := ?_) rfl (by kernel_rfl) (by kernel_rfl) (by kernel_rfl) (fun _ _ _ h => h) (Or.inl ⟨by rfl, ?rt⟩) (by assumption) ?_; case rt => (intro w hSw; (try dsimp only at hSw); go_simp; (try with_reducible rfl))); (try simp only [Act.put, List.getElem_toArray, List.getElem_cons_succ, List.getElem_cons_zero, List.setIfInBounds_toArray, List.set_cons_zero, List.set_cons_succ])
              (refine wpAnyH_take (i := 21) (v := ?_) rfl (by kernel_rfl) (by kernel_rfl) (by kernel_rfl) (fun _ _ _ h => h) (Or.inl ⟨by rfl, ?rt⟩) (by assumption) ?_; case rt => (intro w hSw; (try dsimp only at hSw); go_simp; (try with_reducible rfl))); (try simp only [Act.put, List.getElem_toArray, List.getElem_cons_succ, List.getElem_cons_zero, List.setIfInBounds_toArray, List.set_cons_zero, List.set_cons_succ])
              (refine wpAnyH_take (i := 22) (v := ?_) rfl (by kernel_rfl) (by kernel_rfl) (by kernel_rfl) (fun _ _ _ h => h) (Or.inl ⟨by rfl, ?rt⟩) (by assumption) ?_; case rt => (intro w hSw; (try dsimp only at hSw); go_simp; (try with_reducible rfl))); (try simp only [Act.put, List.getElem_toArray, List.getElem_cons_succ, List.getElem_cons_zero, List.setIfInBounds_toArray, List.set_cons_zero, List.set_cons_succ])
              (refine wpAnyH_take (i := 23) (v := ?_) rfl (by kernel_rfl) (by kernel_rfl) (by kernel_rfl) (fun _ _ _ h => h) (Or.inl ⟨by rfl, ?rt⟩) (by assumption) ?_; case rt => (intro w hSw; (try dsimp only at hSw); go_simp; (try with_reducible rfl))); (try simp only [Act.put, List.getElem_toArray, List.getElem_cons_succ, List.getElem_cons_zero, List.setIfInBounds_toArray, List.set_cons_zero, List.set_cons_succ])
              (refine wpAnyH_take (i := 24) (v := ?_) rfl (by kernel_rfl) (by kernel_rfl) (by kernel_rfl) (fun _ _ _ h => h) (Or.inl ⟨by rfl, ?rt⟩) (by assumption) ?_; case rt => (intro w hSw; (try dsimp only at hSw); go_simp; (try with_reducible rfl))); (try simp only [Act.put, List.getElem_toArray, List.getElem_cons_succ, List.getElem_cons_zero, List.setIfInBounds_toArray, List.set_cons_zero, List.set_cons_succ])
              (refine wpAnyH_take (i := 25) (v := ?_) rfl (by kernel_rfl) (by kernel_rfl) (by kernel_rfl) (fun _ _ _ h => h) (Or.inl ⟨by rfl, ?rt⟩) (by assumption) ?_; case rt => (intro w hSw; (try dsimp only at hSw); go_simp; (try with_reducible rfl))); (try simp only [Act.put, List.getElem_toArray, List.getElem_cons_succ, List.getElem_cons_zero, List.setIfInBounds_toArray, List.set_cons_zero, List.set_cons_succ])
              refine wpAnyH_done (by kernel_rfl) ?_ _
              have B9 := Lib.hid (Bt HBi.out (Bt b7.out hHeld.1))
              clear hHeld hb1 x10 x11 x12 x20 x21 x22 x30 x31 v0 v1 l1 l2 l3 l9 ne1 gd1
              go_wp2
              go_roundw
              case measure => simp [intOf]; omega
              case rel => exact ⟨i + 1, by go_num, by omega, B9⟩
          · have hii : i = R.length := by omega
            subst hii
            as_aux_lemma =>
              have HPr := Lib.hid (P2.out.below HBi.out)
              have Br := Lib.hid (Bt B2.out HBi.out)
              have Or := Lib.hid (blk_below O2.out HBi.out)
              obtain ⟨z0, z1, z2, z3, z4, z5, z6, z7, z8⟩ := nine_cells Or.out
              have hobl := cell_lt z0
              by_cases hpl : 0 ≤ ix ∧ ix < R.length
              · obtain ⟨n, hn0⟩ : ∃ n : Nat, ix = n := ⟨ix.toNat, by omega⟩
                subst hn0
                have hn : n < R.length := by omega
                have CE := Lib.hid (tent_yes HPr.out.tab.choose_spec n hn (HT.out.below Br.out))
                have CR : Hid (∀ W, RowKit.Below wr.heap.size wr W → Calls Tryd.prog 26 #[ptP pr, .int .i64 n] W fun e w' => e = .returned (.bool true) ∧ W = w') := fun W hb => (rhas_call (HPr.out.below hb).ref.choose_spec n).mono fun e w' ⟨a, b⟩ => ⟨by rw [a, decide_eq_true hpl], b⟩
                generalize R[n]! = en at CE
                obtain ⟨⟨e1, e2⟩, el⟩ := en
                dsimp only at CE
                clear hpl
                go_wp2_with fail
                refine CE.out.mono ?_
                rintro e w4 ⟨ve, rfl, ho4, hb4⟩
                obtain ⟨pe, ce, rfl, hce1, hce2, _⟩ := row_val ho4
                have b4 := Lib.hid (Bt hb4 (Ba (Below.refl _ w4) (.cells #[.int .i64 e1, .int .i64 e2, .slice pe el.length ce] 51)))
                have O4 := Lib.hid (blk_below Or.out hb4)
                have CR4 := Lib.hid (CR.out _ b4.out)
                clear ho4 hb4 CE CR
                clear z0 z1 z2 z3 z4 z5 z6 z7 z8 hobl
                obtain ⟨z0, z1, z2, z3, z4, z5, z6, z7, z8⟩ := nine_cells O4.out
                have hobl := cell_lt z0
                go_wp2_with fail
                refine CR4.out.mono ?_
                rintro e w5 ⟨rfl, rfl⟩
                have P9 := Lib.hid ((HPr.out.below b4.out).forget (Z' := NoN) (fun b e => e.elim))
                have B9 := Lib.hid (Bt Br.out b4.out)
                clear CR4
                clear z0 z1 z2 z3 z4 z5 z6 z7 z8 hobl
                go_wp2
                go_roundw
                case measure => simp [intOf]; omega
                case rel => exact ⟨k + 1, pt, R, rfl, by go_num, by omega, P9, B9⟩
              · have CE := Lib.hid (tent_no HPr.out.tab.choose_spec ix hpl (HE7.out.below Br.out))
                have CR : Hid (∀ W, RowKit.Below wr.heap.size wr W → Calls Tryd.prog 26 #[ptP pr, .int .i64 ix] W fun e w' => e = .returned (.bool false) ∧ W = w') := fun W hb => (rhas_call (HPr.out.below hb).ref.choose_spec ix).mono fun e w' ⟨a, b⟩ => ⟨by rw [a, decide_eq_false hpl], b⟩
                unfold errC at CE
                clear hpl
                go_wp2_with fail
                refine CE.out.mono ?_
                rintro e w4 ⟨rfl, hb4⟩
                have b4 := Lib.hid (Bt hb4 (Ba (Below.refl _ w4) (.cells #[.int .i64 0, .int .i64 0, .slice none 0 0] 51)))
                have O4 := Lib.hid (blk_below Or.out hb4)
                have CR4 := Lib.hid (CR.out _ b4.out)
                have CN := Lib.hid (num_range (HE.out.below (Bt Br.out b4.out)))
                have X4 : Hid ((w4.alloc (.cells #[.int .i64 0, .int .i64 0, .slice none 0 0] 51)).heap[w4.heap.size]? = some (.cells #[.int .i64 0, .int .i64 0, .slice none 0 0] 51 (0, 0))) := heap_alloc_new w4 _
                clear hb4 CE CR
                clear z0 z1 z2 z3 z4 z5 z6 z7 z8 hobl
                obtain ⟨z0, z1, z2, z3, z4, z5, z6, z7, z8⟩ := nine_cells O4.out
                have hobl := cell_lt z0
                go_wp2_with fail
                refine CR4.out.mono ?_
                rintro e w5 ⟨rfl, rfl⟩
                go_wp2_with fail
                refine CN.out.mono ?_
                rintro e w6 ⟨rfl, hb6⟩
                have P9 := Lib.hid (((HPr.out.below b4.out).below hb6).forget (Z' := NoN) (fun b e => e.elim))
                have B9 := Lib.hid (Bt (Bt Br.out b4.out) hb6)
                obtain ⟨⟨x40, x41, x42⟩, _, _, _⟩ := three_cells (blk_below X4.out hb6)
                have hxl := cell_lt x40
                have ne1 := neH_run 0 0 0 0
                rw [decide_eq_true (rfl : ((0 : Int), (0 : Int)) = (0, 0)), Bool.not_true] at ne1
                have gd1 := gdH_run
                clear CR4 CN hb6
                clear z0 z1 z2 z3 z4 z5 z6 z7 z8 hobl
                go_wp2
                go_roundw
                case measure => simp [intOf]; omega
                case rel => exact ⟨k + 1, pt, R, rfl, by go_num, by omega, P9, B9⟩
    · go_wp2
      go_ret
      exact ⟨rfl, HB.out⟩
end
end Go.Proofs.YtknfmjjlfhfocaaDoor
