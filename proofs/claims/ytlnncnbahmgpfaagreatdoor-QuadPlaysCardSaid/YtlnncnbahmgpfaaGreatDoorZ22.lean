import Derived.Test.YtlnncnbahmgpfaaGreatDoorZ3
import Derived.Test.YtlnncnbahmgpfaaGreatDoorZ25
import Derived.Deep.RegionLaw

/-
  The reference: Nodes.
-/
namespace Go.Proofs.YtlnncnbahmgpfaaGreatDoor
set_option linter.unusedSimpArgs false
set_option linter.unusedVariables false
open Go.RowKit Go.Sort Go.Lib Go.Shelf

/-! ### Cells in order: how far those below a cell reach; whether it is there. -/
def belowC (c : Cl) (L : List Cl) (j : Nat) : Nat := min j (headLess ltC c L)
def hasC (c : Cl) (L : List Cl) (j : Nat) : Bool := (L.take j).any fun z => decide (z = c)
theorem belowC_lt {c : Cl} {L : List Cl} (hr : Rise ltC L) {j : Nat} (hj : j < L.length) (h : ltC L[j]! c = true) : belowC c L (j + 1) = j + 1 := by
  unfold belowC
  rcases Nat.lt_or_ge j (headLess ltC c L) with q | q
  · omega
  · have := headLess_ge sto_cl c hr j q (List.getElem?_eq_getElem hj)
    rw [getElem!_pos L j hj, this] at h
    cases h
theorem belowC_not {c : Cl} {L : List Cl} {j : Nat} (hj : j < L.length) (h : ltC L[j]! c = false) : belowC c L (j + 1) = belowC c L j := by
  unfold belowC
  rcases Nat.lt_or_ge j (headLess ltC c L) with q | q
  · obtain ⟨y, hy, hl⟩ := headLess_lt c L j q
    rw [List.getElem?_eq_getElem hj] at hy
    rw [getElem!_pos L j hj, Option.some.inj hy, hl] at h
    cases h
  · omega
theorem belowC_end (c : Cl) (L : List Cl) : belowC c L L.length = headLess ltC c L := by
  unfold belowC
  have := headLess_le (lt := ltC) c L
  omega
theorem belowC_le (c : Cl) (L : List Cl) (j : Nat) : belowC c L j ≤ j := by unfold belowC; omega
theorem hasC_step {c : Cl} {L : List Cl} {j : Nat} (hj : j < L.length) : hasC c L (j + 1) = (hasC c L j || decide (L[j]! = c)) := by
  unfold hasC
  rw [List.take_succ_eq_append_getElem hj, List.any_append, getElem!_pos L j hj]
  simp
theorem hasC_end (c : Cl) (L : List Cl) : hasC c L L.length = decide (c ∈ L) := by
  unfold hasC
  rw [List.take_length, Bool.eq_iff_iff]
  simp
theorem put_there {c : Cl} {L : List Cl} (hr : Rise ltC L) (h : c ∈ L) : put ltC c L = L := by
  rw [put_eq, if_pos (headLess_mem sto_cl c hr h)]
theorem cell_parts (b : Bx4) : ∃ (d : Nat) (x y : Int), cellE b = ((d : Int), x, y) ∧ d ≤ 8 ∧ 0 ≤ x ∧ x ≤ 255 ∧ 0 ≤ y ∧ y ≤ 255 ∧ chainB b = chain d x y := by
  by_cases h : errB b = 0
  · obtain ⟨hR, hW⟩ := errB_zero.1 h
    obtain ⟨w1, w2, w3, w4, w5, w6, w7, w8⟩ := okW_iff.1 hW
    have h1 := depth_le b
    have h2 := col_bounds h1 (show -2097152 ≤ halfI (b.1 + b.2.2.1) by unfold halfI; omega)
    have h3 := col_bounds h1 (show -2097152 ≤ halfI (b.2.1 + b.2.2.2) by unfold halfI; omega)
    refine ⟨depthB b, _, _, by unfold cellE; rw [if_pos h]; rfl, h1, h2.1, h2.2.2, h3.1, h3.2.2, ?_⟩
    unfold chainB cellE
    rw [if_pos h]
    rfl
  · refine ⟨0, 0, 0, by unfold cellE; rw [if_neg h]; rfl, by omega, by omega, by omega, by omega, by omega, ?_⟩
    unfold chainB cellE
    rw [if_neg h]
    rfl
theorem eqC_run (x y : Cl) (w : World) : Sem.run Tryz.prog (binOp .eql 34 (clV x) (clV y)) w = .ok (.bool (decide (x = y))) w := by
  obtain ⟨x1, x2, x3⟩ := x
  obtain ⟨y1, y2, y3⟩ := y
  have u3 := Tryz.underlying3
  have a3 := Tryz.isAgg3
  have z3 := Tryz.sizeOf3
  have hS : Tryz.prog.underlying 34 = some (.struct (Tryz.prog.fieldsOf 34)) := by kernel_rfl
  have hp : Tryz.prog.stoodInHeld 34 = false := by kernel_rfl
  unfold clV
  rw [run_eql_struct, show (10000 : Nat) = 9999 + 1 from rfl, run_equalIn_agg w 9999 34 _ _ hS hp]
  simp only [Program.fieldsOf, Tryz.underlying34]
  go_simp
  by_cases h1 : x1 = y1 <;> by_cases h2 : x2 = y2 <;> by_cases h3 : x3 = y3 <;> simp [h1, h2, h3]
theorem gdC_run (op : BinOp) (a b : Operand) (xs ys : Array Value) (w : World) : Sem.run Tryz.prog (eqGuard op 34 a b (.agg xs) (.agg ys)) w = .ok () w :=
  run_eqGuard_agg w op 34 a b xs ys (by kernel_rfl)

theorem set3 {w : World} {b : Nat} {t : TypeId} {a1 a2 a3 : Value} (h : w.heap[b]? = some (.cells #[a1, a2, a3] t (0, 0))) (v1 v2 v3 : Value) :
    (((w.setCell ⟨b, 0, none⟩ v1).setCell ⟨b, 1, none⟩ v2).setCell ⟨b, 2, none⟩ v3).heap[b]? = some (.cells #[v1, v2, v3] t (0, 0)) := by
  have e1 := heap_setCell_same w b 0 _ t v1 h
  have e2 := heap_setCell_same _ b 1 _ t v2 e1
  have e3 := heap_setCell_same _ b 2 _ t v3 e2
  simpa using e3
theorem set3_other {w : World} {b g : Nat} (hg : g ≠ b) (v1 v2 v3 : Value) :
    (((w.setCell ⟨b, 0, none⟩ v1).setCell ⟨b, 1, none⟩ v2).setCell ⟨b, 2, none⟩ v3).heap[g]? = w.heap[g]? := by
  rw [heap_setCell_other _ _ _ _ hg, heap_setCell_other _ _ _ _ hg, heap_setCell_other _ _ _ _ hg]
theorem chain_succ (d : Nat) (x y : Int) : chain (d + 1) x y = (((d + 1 : Nat) : Int), x, y) :: chain d (x / 2) (y / 2) := rfl
set_option maxHeartbeats 8000000 in
set_option maxRecDepth 100000 in
theorem rNodes_call (B : List Bxd) (v : Value) (w : World) (hl : Sl encBx w v B) (hn : B.length ≤ 100) :
    Calls Tryz.prog 41 #[v] w fun e w' => ∃ v', e = .returned v' ∧ w'.ownsRow w.heap.size 34 3 v' (nodesB B).length (flat encC (nodesB B)) ∧ RowKit.Below w.heap.size w w' := by
  obtain ⟨p0, c0, rfl, v1, v2, v3⟩ := hl
  unfold maxLen at v2
  have HV := Lib.hid v3
  have hz : (B.length : Int) ≤ 100 := by omega
  clear v3
  go_enter Tryz.func41, Tryz.ntmps41
  go_wp2
  go_loopw [3, 16] (fun vb u wr => ∃ k : Nat, u = .int .i64 k ∧ k ≤ B.length ∧ RowKit.Below w.heap.size w wr ∧ vb ≠ .slice none 0 0 ∧ wr.ownsRow w.heap.size 34 3 vb (nodesB (B.take k)).length (flat encC (nodesB (B.take k)))) (fun _ u _ => B.length - (intOf u).toNat)
  case atStart => exact ⟨0, rfl, Nat.zero_le _, (by repeat (first | with_reducible exact Below.refl _ _ | with_reducible assumption | with_reducible apply Ba | with_reducible apply Bd | with_reducible apply Bn | with_reducible apply Bg | (with_reducible refine Bs ?_ (by first | (simp; done) | (simp; omega)) _) | (with_reducible refine Bt ?_ (by assumption)) | (with_reducible refine Bt ?_ (Gr.below (by assumption))))), by simp, World.ownsRow_lit w #[.int .i64 0, .int .i64 0, .int .i64 0] 1 (Nat.le_refl _) (by unfold maxLen; omega) rfl⟩
  case round =>
    obtain ⟨k, rfl, hk, hb, hv, ho⟩ := hrel
    have HO := Lib.hid ho
    have HB := Lib.hid hb
    have HVN := Lib.hid hv
    clear ho hb hv
    by_cases hkn : k < B.length
    · obtain ⟨g0, o0, rfl, hg1, hg2⟩ := HV.out (by omega)
      obtain ⟨c1, c2, c3, c4, c5, c6⟩ := atBx hg2 hkn
      replace c1 := Bc HB.out hg1 c1
      replace c2 := Bc HB.out hg1 c2
      replace c3 := Bc HB.out hg1 c3
      replace c4 := Bc HB.out hg1 c4
      replace c5 := Bc HB.out hg1 c5
      replace c6 := Bc HB.out hg1 c6
      have HST := Lib.hid (nodeL_take hkn)
      have hNl : (nodeL (B.take (k + 1))).length ≤ 900 := by
        have h1 := nodeL_len (B.take (k + 1))
        have h2 := List.length_take_le' (k + 1) B
        omega
      generalize B[k]! = x at *
      obtain ⟨⟨x1, x2⟩, x3, x4, x5, x6⟩ := x
      dsimp only at c1 c2 c3 c4 c5 c6
      clear hg2
      obtain ⟨dn, cx, cy, he, hd8, hx0, hx1, hy0, hy1, hch⟩ := cell_parts (x3, x4, x5, x6)
      have OC := Lib.hid (fun W => rOf_call x3 x4 x5 x6 W)
      rw [he] at OC
      have HS2 : Hid (nodeL (B.take (k + 1)) = nodeL (B.take k) ++ chain dn cx cy) := by rw [HST.out]; exact congrArg _ hch
      clear HST hch he
      go_wp2_with fail
      refine (OC.out _).mono ?_
      rintro e w1 ⟨rfl, hb1⟩
      have bM := Bt (Ba (Below.refl _ wr) (.cells #[.int .i64 x1, .int .i64 x2, .int .i64 x3, .int .i64 x4, .int .i64 x5, .int .i64 x6] 43)) hb1
      have hsz := bM.size
      have BM := Lib.hid (Bt HB.out (Ba bM (.cells #[.int .i64 (dn : Nat), .int .i64 cx, .int .i64 cy] 34)))
      have OM := Lib.hid (row_below HO.out (Ba bM (.cells #[.int .i64 (dn : Nat), .int .i64 cx, .int .i64 cy] 34)))
      have HGN := Lib.hid (show ∀ g, u3.ownBlock = some g → g ≠ w1.heap.size from fun g hg => by have := row_lt HO.out hg; omega)
      have HCB := Lib.hid (heap_alloc_new w1 (.cells #[.int .i64 (dn : Nat), .int .i64 cx, .int .i64 cy] 34))
      have HWL := Lib.hid (show w.heap.size ≤ w1.heap.size by have := HB.out.size; omega)
      clear HO HB bM hb1 c1 c2 c3 c4 c5 c6 OC hsz
      go_wp2
      generalize hM : w1.alloc (.cells #[.int .i64 (dn : Nat), .int .i64 cx, .int .i64 cy] 34) = M at *
      clear hM
      generalize w1.heap.size = cb at *
      go_loopw [3] (fun vb wr => ∃ (P : List Cl) (d : Nat) (x y : Int), P ++ chain d x y = nodeL (B.take (k + 1)) ∧ d ≤ 8 ∧ 0 ≤ x ∧ x ≤ 255 ∧ 0 ≤ y ∧ y ≤ 255 ∧ vb ≠ .slice none 0 0 ∧ wr.ownsRow w.heap.size 34 3 vb (srt ltC P).length (flat encC (srt ltC P)) ∧ (∀ g, vb.ownBlock = some g → g ≠ cb) ∧ wr.heap[cb]? = some (.cells #[.int .i64 (d : Nat), .int .i64 x, .int .i64 y] 34 (0, 0)) ∧ RowKit.Below w.heap.size w wr) (fun _ wr => match wr.cell? ⟨cb, 0, none⟩ with | some v => (intOf v).toNat | none => 0)
      case atStart => exact ⟨nodeL (B.take k), dn, cx, cy, HS2.out.symm, hd8, hx0, hx1, hy0, hy1, HVN.out, OM.out, HGN.out, HCB.out, BM.out⟩
      case round =>
        clear HVN OM HGN HCB BM hd8 hx0 hx1 hy0 hy1 HS2
        obtain ⟨P, d0, cx, cy, hN, hd8, hx0, hx1, hy0, hy1, hv, ho, hgn, hcb, hb⟩ := hrel
        have HO := Lib.hid ho
        have HVN := Lib.hid hv
        have HGN := Lib.hid hgn
        have HCB := Lib.hid hcb
        have HB := Lib.hid hb
        clear ho hv hgn hcb hb
        have MC := Lib.hid (cells3 HCB.out).1.1
        by_cases hd0 : d0 = 0
        · subst hd0
          have HN0 : Hid (P = nodeL (B.take (k + 1))) := by simpa [chain, Hid] using hN
          obtain ⟨z1, z2, z3⟩ := (cells3 HCB.out).1
          have hcl := cell_lt z1
          have HO2 := Lib.hid HO.out
          rw [HN0.out] at HO2
          clear hN HO
          go_wp2
          go_roundw
          case measure => simp only [intOf]; omega
          case rel => exact ⟨k + 1, by go_num, by omega, HB.out, HVN.out, HO2.out⟩
        · obtain ⟨d, rfl⟩ : ∃ d, d0 = d + 1 := ⟨d0 - 1, by omega⟩
          have hPl : P.length ≤ 900 := by
            have := congrArg List.length hN
            rw [List.length_append] at this
            omega
          rw [chain_succ] at hN
          have hcd1 : ((d + 1 : Nat) : Int) - 1 = (d : Int) := by omega
          have hcd2 : 0 < ((d + 1 : Nat) : Int) ∧ ((d + 1 : Nat) : Int) ≤ 8 := by omega
          generalize ((d + 1 : Nat) : Int) = cd at *
          obtain ⟨hcd3, hcd4⟩ := hcd2
          have HN := Lib.hid hN
          have HSN : Hid (srt ltC (P ++ [(cd, cx, cy)]) = put ltC (cd, cx, cy) (srt ltC P)) := srt_snoc _ _
          have HRI := Lib.hid (rise_srt sto_cl P)
          have hLl : (srt ltC P).length ≤ 900 := by have := srt_len ltC P; omega
          generalize srt ltC P = L at *
          obtain ⟨g, cap2, rfl, hbg, hgl, hlc, hcm⟩ := row_form HO.out HVN.out
          have hgb : g ≠ cb := HGN.out g rfl
          have hml : cap2 ≤ 9223372036854775807 := by unfold maxLen at hcm; omega
          have HCM := Lib.hid hcm
          have HCL := Lib.hid (cellsI HO.out)
          clear hcm hN hd0
          obtain ⟨wo, rfl⟩ : ∃ wo, wo = wr := ⟨_, rfl⟩
          obtain ⟨z1, z2, z3⟩ := (cells3 HCB.out).1
          have hco := cell_lt z1
          have HZZ := Lib.hid (And.intro z1 (And.intro z2 z3))
          go_wp2
          clear z1 z2 z3
          go_loopw [8, 9, 31] (fun s8 s9 u wr => ∃ j : Nat, u = .int .i64 j ∧ j ≤ L.length ∧ s8 = .int .i64 (belowC (cd, cx, cy) L j : Nat) ∧ s9 = .bool (hasC (cd, cx, cy) L j) ∧ RowKit.Below wo.heap.size wo wr) (fun _ _ u _ => L.length - (intOf u).toNat)
          case atStart => exact ⟨0, rfl, Nat.zero_le _, by simp [belowC], rfl, Below.refl _ _⟩
          case round =>
            obtain ⟨j, rfl, hj, rfl, rfl, hb⟩ := hrel
            have HBj := Lib.hid hb
            have hcr := Bl hb hco
            have z1 := Bc hb hco HZZ.out.1
            have z2 := Bc hb hco HZZ.out.2.1
            have z3 := Bc hb hco HZZ.out.2.2
            have hgr := Bl hb hgl
            clear hb
            by_cases hjl : j < L.length
            · obtain ⟨a1, a2, a3⟩ := atC HCL.out hjl
              simp only [Nat.zero_add] at a1 a2 a3
              replace a1 := Bc HBj.out hgl a1
              replace a2 := Bc HBj.out hgl a2
              replace a3 := Bc HBj.out hgl a3
              have h9 := hasC_step (c := (cd, cx, cy)) hjl
              have h8t := belowC_lt (c := (cd, cx, cy)) HRI.out hjl
              have h8f := belowC_not (c := (cd, cx, cy)) hjl
              have hbl := belowC_le (cd, cx, cy) L j
              have hjz : (j : Int) < (L.length : Int) := by omega
              generalize L[j]! = y at *
              obtain ⟨y1, y2, y3⟩ := y
              dsimp only at a1 a2 a3
              have eQ := fun W => eqC_run (y1, y2, y3) (cd, cx, cy) W
              have gd := gdC_run
              unfold clV at eQ
              dsimp only at eQ
              generalize decide (((y1, y2, y3) : Cl) = (cd, cx, cy)) = q at h9 eQ
              generalize hasC (cd, cx, cy) L j = tj at *
              generalize belowC (cd, cx, cy) L j = kb at *
              have H9 := Lib.hid h9
              have H8T := Lib.hid h8t
              have H8F := Lib.hid h8f
              have HBX := Lib.hid (Bt HBj.out (Ba (Below.refl _ wr) (.cells #[.int .i64 y1, .int .i64 y2, .int .i64 y3] 34)))
              clear h9 h8t h8f
              by_cases e1 : y1 < cd
              · have H8 := Lib.hid (H8T.out (by simp [ltC, e1]))
                cases tj
                case' false => cases q
                all_goals
                  clear hjz
                  go_wp2
                  go_roundw
                  case measure => simp only [intOf]; omega
                  case rel => exact ⟨j + 1, by go_num, by omega, by rw [H8.out]; go_num, by rw [H9.out]; simp, HBX.out⟩
              · by_cases e2 : y1 = cd
                · subst e2
                  by_cases e3 : y3 < cy
                  · have H8 := Lib.hid (H8T.out (by simp [ltC, e3]))
                    cases tj
                    case' false => cases q
                    all_goals
                      clear hjz
                      go_wp2
                      go_roundw
                      case measure => simp only [intOf]; omega
                      case rel => exact ⟨j + 1, by go_num, by omega, by rw [H8.out]; go_num, by rw [H9.out]; simp, HBX.out⟩
                  · by_cases e4 : y3 = cy
                    · subst e4
                      by_cases e5 : y2 < cx
                      · have H8 := Lib.hid (H8T.out (by simp [ltC, e5]))
                        cases tj
                        case' false => cases q
                        all_goals
                          clear hjz
                          go_wp2
                          go_roundw
                          case measure => simp only [intOf]; omega
                          case rel => exact ⟨j + 1, by go_num, by omega, by rw [H8.out]; go_num, by rw [H9.out]; simp, HBX.out⟩
                      · have H8 := Lib.hid (H8F.out (by simp [ltC, e5]))
                        cases tj
                        case' false => cases q
                        all_goals
                          clear hjz
                          go_wp2
                          go_roundw
                          case measure => simp only [intOf]; omega
                          case rel => exact ⟨j + 1, by go_num, by omega, by rw [H8.out], by rw [H9.out]; simp, HBX.out⟩
                    · have H8 := Lib.hid (H8F.out (by simp [ltC, e3, e4]))
                      have e4b : (y3 == cy) = false := by simpa using e4
                      cases tj
                      case' false => cases q
                      all_goals
                        clear hjz
                        go_wp2
                        go_roundw
                        case measure => simp only [intOf]; omega
                        case rel => exact ⟨j + 1, by go_num, by omega, by rw [H8.out], by rw [H9.out]; simp, HBX.out⟩
                · have H8 := Lib.hid (H8F.out (by simp [ltC, e1, e2]))
                  have e2b : (y1 == cd) = false := by simpa using e2
                  cases tj
                  case' false => cases q
                  all_goals
                    clear hjz
                    go_wp2
                    go_roundw
                    case measure => simp only [intOf]; omega
                    case rel => exact ⟨j + 1, by go_num, by omega, by rw [H8.out], by rw [H9.out]; simp, HBX.out⟩
            · have hjn : j = L.length := by omega
              subst hjn
              rw [belowC_end, hasC_end]
              have HBw := Lib.hid (Bt HB.out HBj.out)
              have HCB2 := Lib.hid (blk_below HCB.out HBj.out)
              have HOw := Lib.hid (row_below HO.out HBj.out)
              have HHl := headLess_le (lt := ltC) (cd, cx, cy) L
              clear HO HB HCB
              by_cases hin : (cd, cx, cy) ∈ L
              · rw [decide_eq_true hin]
                have HS3 := Lib.hid (HSN.out.trans (put_there HRI.out hin))
                have HOx : Hid (wr.ownsRow w.heap.size 34 3 (.slice (some ⟨g, 0, none⟩) L.length cap2) (srt ltC (P ++ [(cd, cx, cy)])).length (flat encC (srt ltC (P ++ [(cd, cx, cy)])))) := Lib.hid (by rw [HS3.out]; exact HOw.out)
                clear hin z1 z2 z3
                obtain ⟨⟨z1, z2, z3⟩, zf1, zf2, zf3⟩ := cells3 HCB2.out
                have hcz := cell_lt z1
                have HZ := Lib.hid (set3 HCB2.out (.int .i64 (d : Nat)) (.int .i64 (cx / 2)) (.int .i64 (cy / 2)))
                have HZR := Lib.hid (row_keep HOx.out (w' := ((wr.setCell ⟨cb, 0, none⟩ (.int .i64 (d : Nat))).setCell ⟨cb, 1, none⟩ (.int .i64 (cx / 2))).setCell ⟨cb, 2, none⟩ (.int .i64 (cy / 2))) (fun g hg => set3_other (HGN.out g hg) _ _ _))
                have HZB := Lib.hid (show RowKit.Below w.heap.size w (((wr.setCell ⟨cb, 0, none⟩ (.int .i64 (d : Nat))).setCell ⟨cb, 1, none⟩ (.int .i64 (cx / 2))).setCell ⟨cb, 2, none⟩ (.int .i64 (cy / 2))) from Bs (Bs (Bs HBw.out HWL.out _) HWL.out _) HWL.out _)
                have HZC := Lib.hid (cells3 HZ.out).1.1
                go_wp2
                go_roundw
                case measure => rw [HZC.out, MC.out]; simp only [intOf]; omega
                case rel => exact ⟨P ++ [(cd, cx, cy)], d, cx / 2, cy / 2, by rw [List.append_assoc]; exact HN.out, by omega, by omega, by omega, by omega, by omega, HVN.out, HZR.out, HGN.out, HZ.out, HZB.out⟩
              · rw [decide_eq_false hin]
                have HPN := Lib.hid (HSN.out.trans (put_new sto_cl (cd, cx, cy) hin))
                generalize headLess ltC (cd, cx, cy) L = H at *
                clear hin
                have hpu : srt ltC (P ++ [(cd, cx, cy)]) = L.take H ++ ([(cd, cx, cy)] ++ L.drop H) := by rw [HPN.out, List.append_assoc]
                have HPU := Lib.hid hpu
                clear hpu HPN z1 z2 z3
                obtain ⟨z1, z2, z3⟩ := (cells3 HCB2.out).1
                have hgw := Bl HBj.out hgl
                have HCW := Lib.hid (fun j' u (hu : (flat encC L)[j']? = some u) => Bc HBj.out hgl (HCL.out j' u hu))
                clear HBj
                obtain ⟨W2, rfl⟩ : ∃ W2, W2 = wr := ⟨_, rfl⟩
                have SLD := Lib.hid (fun W (hb : RowKit.Below W2.heap.size W2 W) => (show Sl encC W (.slice (if cap2 = H then some ⟨g, 0, none⟩ else some ⟨g, H * 3, none⟩) (L.length - H) (cap2 - H)) (L.drop H) by
                  by_cases hjc2 : H < L.length
                  · rw [if_neg (by omega)]
                    have := sl_drop lenC (w := W) H (by omega : H ≤ L.length) hlc HCM.out (Bl hb hgw) (fun j' u hu => Bc hb hgw (HCW.out j' u hu))
                    rwa [Nat.zero_add] at this
                  · exact ⟨_, cap2 - H, by rw [List.length_drop], by rw [List.length_drop]; omega, by have := HCM.out; omega, fun h => absurd h (by rw [List.length_drop]; omega)⟩))
                have A3 := Lib.hid (Ba (Bd (Below.refl _ W2)) (.cells #[.int .i64 cd, .int .i64 cx, .int .i64 cy] 34))
                have O3 := Lib.hid (show (W2.drew.alloc (.cells #[.int .i64 cd, .int .i64 cx, .int .i64 cy] 34)).ownsRow W2.heap.size 34 3 (.slice (some ⟨W2.heap.size, 0, none⟩) 1 1) 1 (flat encC [(cd, cx, cy)]) from World.ownsRow_lit W2.drew #[.int .i64 cd, .int .i64 cx, .int .i64 cy] 1 (Nat.le_refl _) (by unfold maxLen; omega) rfl)
                have hsz2 := HBw.out.size
                have hjc : H ≤ cap2 := by omega
                have hjl2 : H ≤ L.length := HHl
                go_wp2_with fail
                go_region_law (first
                  | (refine step_app2 apRC rfl (.tmp 84) (.tmp 87) rfl W2.heap.size (by rfl) (by rfl) O3.out rfl (SLD.out _ A3.out) (by simp; omega) A3.out.size ?_; intro v1 w3 hown1 hgrow1 hat1 hnil1; have b3 := grownB A3.out O3.out hgrow1; have B3 := Lib.hid (Bt HBw.out b3); have C3 := Lib.hid (blk_below HCB2.out b3); have S3 := Lib.hid (row_sl lenC hown1 (by first | (simp; done) | (simp; omega))); have O5 := Lib.hid (row_front lenC (row_below HOw.out b3) rfl H (by omega)); have hl3 : cb < w3.heap.size := (Array.getElem?_eq_some_iff.1 C3.out).1; clear hown1 hgrow1 hat1 hnil1 b3)
                  | (refine step_app2 apRC rfl (.tmp 82) (.tmp 88) rfl w.heap.size (by rfl) (by rfl) O5.out (by first | (simp; done) | (simp; omega)) S3.out (by first | (simp; done) | (simp; omega)) B3.out.size ?_; intro v2 w4 hown2 hgrow2 hat2 hnil2))
                have HB4 := Lib.hid (grownB B3.out O5.out hgrow2)
                have HC4 := Lib.hid ((hgrow2.block cb hl3 (fun e => by simp only [Value.ownBlock, Option.some.injEq] at e; exact hgb e.symm)).trans C3.out)
                have hn4 : ∀ b, v2.ownBlock = some b → b ≠ cb := fun b e => by
                  rcases hat2 with h | h
                  · rw [h] at e
                    simp only [Value.ownBlock, Option.some.injEq] at e
                    subst e
                    exact hgb
                  · rw [h] at e
                    simp only [Option.some.injEq] at e
                    omega
                rw [← HPU.out] at hown2
                have HR4 := Lib.hid hown2
                have hv2 : v2 ≠ .slice none 0 0 := fun h => by
                  obtain ⟨p, c, e, _, _, _⟩ := row_val hown2
                  rw [e] at h
                  have h9 := congrArg List.length HPU.out
                  rw [List.length_append, List.length_append] at h9
                  simp only [List.length_cons, List.length_nil] at h9
                  simp only [Value.slice.injEq] at h
                  omega
                have HG4 := Lib.hid hn4
                have HV4 := Lib.hid hv2
                clear hown2 hgrow2 hat2 hnil2 hn4 hv2 z1 z2 z3
                obtain ⟨⟨z1, z2, z3⟩, zf1, zf2, zf3⟩ := cells3 HC4.out
                have hcz := cell_lt z1
                have HZ := Lib.hid (set3 HC4.out (.int .i64 (d : Nat)) (.int .i64 (cx / 2)) (.int .i64 (cy / 2)))
                have HZR := Lib.hid (row_keep HR4.out (w' := ((w4.setCell ⟨cb, 0, none⟩ (.int .i64 (d : Nat))).setCell ⟨cb, 1, none⟩ (.int .i64 (cx / 2))).setCell ⟨cb, 2, none⟩ (.int .i64 (cy / 2))) (fun g hg => set3_other (HG4.out g hg) _ _ _))
                have HZB := Lib.hid (show RowKit.Below w.heap.size w (((w4.setCell ⟨cb, 0, none⟩ (.int .i64 (d : Nat))).setCell ⟨cb, 1, none⟩ (.int .i64 (cx / 2))).setCell ⟨cb, 2, none⟩ (.int .i64 (cy / 2))) from Bs (Bs (Bs HB4.out HWL.out _) HWL.out _) HWL.out _)
                have HZC := Lib.hid (cells3 HZ.out).1.1
                go_wp2
                go_roundw
                case measure => rw [HZC.out, MC.out]; simp only [intOf]; omega
                case rel => exact ⟨P ++ [(cd, cx, cy)], d, cx / 2, cy / 2, by rw [List.append_assoc]; exact HN.out, by omega, by omega, by omega, by omega, by omega, HV4.out, HZR.out, HG4.out, HZ.out, HZB.out⟩
    · have hin : k = B.length := by omega
      subst hin
      have HO2 := Lib.hid HO.out
      rw [List.take_length] at HO2
      go_wp2
      go_ret
      exact ⟨_, rfl, HO2.out, HB.out⟩
end Go.Proofs.YtlnncnbahmgpfaaGreatDoor
