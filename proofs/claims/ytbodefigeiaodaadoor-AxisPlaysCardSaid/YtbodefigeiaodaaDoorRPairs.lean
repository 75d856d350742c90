/-
  The reference's Pairs; OrderPairs: all pairs in order, each once; what is handed in stays.
-/
import Derived.Test.YtbodefigeiaodaaDoorOPairs
import Derived.Test.YtbodefigeiaodaaDoorPut

import Derived.Deep.RegionLaw
namespace Go.Proofs.YtbodefigeiaodaaDoor
set_option linter.unusedSimpArgs false
set_option linter.unusedVariables false
open Go.RowKit Go.Sort Go.Lib Go.Shelf

theorem row_cells {w : World} {base et k g n cap : Nat} {xs : List Value} (h : w.ownsRow base et k (.slice (some ⟨g, 0, none⟩) n cap) n xs) : ∀ j u, xs[j]? = some u → w.cell? ⟨g, 0 + j, none⟩ = some u := fun j u hu => by
  have h1 := (List.getElem?_eq_some_iff.1 hu).1
  rw [Nat.zero_add, h.cellAt j (by rw [← h.1]; exact h1)]
  exact hu
theorem sc4 {w : World} {b : Nat} {u1 u2 u3 u4 v1 v2 v3 v4 : Value} (d1 : w.cell? ⟨b, 0, none⟩ = some u1) (d2 : w.cell? ⟨b, 1, none⟩ = some u2) (d3 : w.cell? ⟨b, 2, none⟩ = some u3) (d4 : w.cell? ⟨b, 3, none⟩ = some u4) :
    ((((w.setCell ⟨b, 0, none⟩ v1).setCell ⟨b, 1, none⟩ v2).setCell ⟨b, 2, none⟩ v3).setCell ⟨b, 3, none⟩ v4).cell? ⟨b, 0, none⟩ = some v1 ∧ ((((w.setCell ⟨b, 0, none⟩ v1).setCell ⟨b, 1, none⟩ v2).setCell ⟨b, 2, none⟩ v3).setCell ⟨b, 3, none⟩ v4).cell? ⟨b, 1, none⟩ = some v2 ∧
    ((((w.setCell ⟨b, 0, none⟩ v1).setCell ⟨b, 1, none⟩ v2).setCell ⟨b, 2, none⟩ v3).setCell ⟨b, 3, none⟩ v4).cell? ⟨b, 2, none⟩ = some v3 ∧ ((((w.setCell ⟨b, 0, none⟩ v1).setCell ⟨b, 1, none⟩ v2).setCell ⟨b, 2, none⟩ v3).setCell ⟨b, 3, none⟩ v4).cell? ⟨b, 3, none⟩ = some v4 := by
  have far : ∀ {w : World} {b i j : Nat} {u v : Value}, i ≠ j → w.cell? ⟨b, j, none⟩ = some u → (w.setCell ⟨b, i, none⟩ v).cell? ⟨b, j, none⟩ = some u := fun hij h => (World.cell?_setCell_other _ _ _ _ (by simp [hij])).trans h
  refine ⟨?_, ?_, ?_, ?_⟩
  · exact far (by decide) (far (by decide) (far (by decide) (World.cell?_setCell_same _ _ _ d1)))
  · exact far (by decide) (far (by decide) (World.cell?_setCell_same _ _ _ (far (by decide) d2)))
  · exact far (by decide) (World.cell?_setCell_same _ _ _ (far (by decide) (far (by decide) d3)))
  · exact World.cell?_setCell_same _ _ _ (far (by decide) (far (by decide) (far (by decide) d4)))
theorem pairLess_is {a b c d p q r s : Int} {v : Bool} (h : ltP ((a, b), (c, d)) ((p, q), (r, s)) = v) (w : World) : Calls Tryd.prog 67 #[.agg #[.int .i64 a, .int .i64 b, .int .i64 c, .int .i64 d], .agg #[.int .i64 p, .int .i64 q, .int .i64 r, .int .i64 s]] w fun e w' => e = .returned (.bool v) ∧ Gr w w' := by
  have := pairLess_call a b c d p q r s w
  rwa [h] at this

set_option maxHeartbeats 8000000 in
set_option maxRecDepth 100000 in
/-- The reference's Pairs: rising, each once, those of two same ones left out. -/
theorem rpairs_call (l : List Pr) (v : Value) (w : World) (hl : Sl encP w v l) (hlen : l.length ≤ 10000) :
    Calls Tryd.prog 48 #[v] w fun e w' => ∃ v', e = .returned v' ∧ w'.ownsRow w.heap.size 68 4 v' (srt ltP (rightOnes l)).length (flat encP (srt ltP (rightOnes l))) ∧ RowKit.Below w.heap.size w w' := by
  obtain ⟨p, cap, rfl, h1, h2, h⟩ := hl
  have HLC := Lib.hid h
  have hz : (l.length : Int) ≤ 10000 := by omega
  clear h
  have eq1 : ∀ a b c d p q r s w, Sem.run Tryd.prog (binOp .eql 68 (.agg #[.int .i64 a, .int .i64 b, .int .i64 c, .int .i64 d]) (.agg #[.int .i64 p, .int .i64 q, .int .i64 r, .int .i64 s])) w = .ok (.bool (decide (((a, b), (c, d)) = ((p, q), (r, s))))) w := fun a b c d p q r s w => eqP_run ((a, b), (c, d)) ((p, q), (r, s)) w
  have gd1 := gdP_run
  have eq2 := eqH_run
  have gd2 := gdH_run
  have mixed : Tryd.prog.follows .mixedOrders = true := by kernel_rfl
  go_enter Tryd.func48, Tryd.ntmps48
  go_wp2
  go_loopw [3, 10] (fun v i wr => ∃ k : Nat, k ≤ l.length ∧ i = .int .i64 k ∧ RowKit.Below w.heap.size w wr ∧ v ≠ .slice none 0 0 ∧ wr.ownsRow w.heap.size 68 4 v (srt ltP (rightOnes (l.take k))).length (flat encP (srt ltP (rightOnes (l.take k))))) (fun _ i _ => l.length - (intOf i).toNat)
  case atStart => exact ⟨0, Nat.zero_le _, rfl, (by repeat (first | with_reducible exact Below.refl _ _ | with_reducible assumption | with_reducible apply Ba | with_reducible apply Bd | with_reducible apply Bn | with_reducible apply Bg | (with_reducible refine Bs ?_ (by first | (simp; done) | (simp; omega)) _) | (with_reducible refine Bt ?_ (by assumption)) | (with_reducible refine Bt ?_ (Gr.below (by assumption))))), by simp, World.ownsRow_made w #[] 0 (Nat.le_refl _) (Nat.zero_le _) (by simp)⟩
  case round =>
    obtain ⟨k, hk, rfl, hb, hv, ho⟩ := hrel
    by_cases hkn : k < l.length
    · obtain ⟨g0, o0, rfl, hg1, hg2⟩ := HLC.out (by omega)
      obtain ⟨c1, c2, c3, c4⟩ := atP hg2 hkn
      replace c1 := Bc hb hg1 c1
      replace c2 := Bc hb hg1 c2
      replace c3 := Bc hb hg1 c3
      replace c4 := Bc hb hg1 c4
      have et := right_take l k hkn
      have hL2 : (srt ltP (rightOnes (l.take k))).length ≤ 10000 := by have := srt_len ltP (rightOnes (l.take k)); have := right_len (l.take k); simp at this; omega
      have es : ∀ q, rightOnes (l.take (k + 1)) = rightOnes (l.take k) ++ [q] → srt ltP (rightOnes (l.take (k + 1))) = put ltP q (srt ltP (rightOnes (l.take k))) := fun q hq => by rw [hq, srt_snoc]
      have es0 : rightOnes (l.take (k + 1)) = rightOnes (l.take k) → srt ltP (rightOnes (l.take (k + 1))) = srt ltP (rightOnes (l.take k)) := fun hq => by rw [hq]
      generalize hx : l[k]! = x at *
      obtain ⟨⟨x1, x2⟩, x3, x4⟩ := x
      dsimp only at c1 c2 c3 c4 et
      have HB2 := Lib.hid (Ba hb (.cells #[.int .i64 x1, .int .i64 x2, .int .i64 x3, .int .i64 x4] 68))
      have HO2 := Lib.hid (ho.alloc (.cells #[.int .i64 x1, .int .i64 x2, .int .i64 x3, .int .i64 x4] 68))
      have HV := Lib.hid hv
      have HB := Lib.hid hb
      have HO := Lib.hid ho
      have DA := Lib.hid (show ((wr.alloc (.cells #[.int .i64 x1, .int .i64 x2, .int .i64 x3, .int .i64 x4] 68)).cell? ⟨wr.heap.size, 0, none⟩ = some (.int .i64 x1) ∧ (wr.alloc (.cells #[.int .i64 x1, .int .i64 x2, .int .i64 x3, .int .i64 x4] 68)).cell? ⟨wr.heap.size, 1, none⟩ = some (.int .i64 x2) ∧ (wr.alloc (.cells #[.int .i64 x1, .int .i64 x2, .int .i64 x3, .int .i64 x4] 68)).cell? ⟨wr.heap.size, 2, none⟩ = some (.int .i64 x3) ∧ (wr.alloc (.cells #[.int .i64 x1, .int .i64 x2, .int .i64 x3, .int .i64 x4] 68)).cell? ⟨wr.heap.size, 3, none⟩ = some (.int .i64 x4)) ∧ ((wr.alloc (.cells #[.int .i64 x1, .int .i64 x2, .int .i64 x3, .int .i64 x4] 68)).frozen? ⟨wr.heap.size, 0, none⟩ = false ∧ (wr.alloc (.cells #[.int .i64 x1, .int .i64 x2, .int .i64 x3, .int .i64 x4] 68)).frozen? ⟨wr.heap.size, 1, none⟩ = false ∧ (wr.alloc (.cells #[.int .i64 x1, .int .i64 x2, .int .i64 x3, .int .i64 x4] 68)).frozen? ⟨wr.heap.size, 2, none⟩ = false ∧ (wr.alloc (.cells #[.int .i64 x1, .int .i64 x2, .int .i64 x3, .int .i64 x4] 68)).frozen? ⟨wr.heap.size, 3, none⟩ = false) from ⟨⟨by simp, by simp, by simp, by simp⟩, ⟨by simp, by simp, by simp, by simp⟩⟩)
      have HWS := Lib.hid (show wr.heap.size < (wr.alloc (.cells #[.int .i64 x1, .int .i64 x2, .int .i64 x3, .int .i64 x4] 68)).heap.size by simp)
      have HWB := Lib.hid hb.size
      clear hg2 hx hb hv ho
      by_cases hs : ((x1, x2) : Hd) = (x3, x4)
      · have ES := Lib.hid (es0 (by rw [et, if_pos hs, List.append_nil]))
        obtain ⟨rfl, rfl⟩ : x1 = x3 ∧ x2 = x4 := by simpa using hs
        clear hs et es es0
        go_wp2
        go_roundw
        case measure => simp [intOf]; omega
        case rel => exact ⟨k + 1, by omega, by go_num, HB2.out, HV.out, by rw [ES.out]; exact HO2.out⟩
      · have e0 := and_ne hs
        have ES := Lib.hid (es (norm ((x1, x2), (x3, x4))) (by rw [et, if_neg hs]))
        clear hs et es es0
        generalize srt ltP (rightOnes (l.take k)) = L at *
        cases hlt : ltH (x3, x4) (x1, x2)
        case' false =>
          have EN := Lib.hid (show norm ((x1, x2), (x3, x4)) = ((x1, x2), (x3, x4)) by unfold norm; dsimp only; rw [hlt]; rfl)
          have HLT := Lib.hid hlt
          clear hlt
          go_wp2_with fail
          refine (rless_is HLT.out _).mono ?_
          rintro e M ⟨rfl, hg3⟩
          have hb3 := hg3.below
          have B3 := Bt (Ba (Below.refl _ wr) (.cells #[.int .i64 x1, .int .i64 x2, .int .i64 x3, .int .i64 x4] 68)) hb3
          have BM := Lib.hid (Bt HB.out B3)
          have OM := Lib.hid (row_below HO.out B3)
          obtain ⟨q1, q2, q3, q4, D, ET⟩ : ∃ q1 q2 q3 q4 : Int, Hid (M.cell? ⟨wr.heap.size, 0, none⟩ = some (.int .i64 q1) ∧ M.cell? ⟨wr.heap.size, 1, none⟩ = some (.int .i64 q2) ∧ M.cell? ⟨wr.heap.size, 2, none⟩ = some (.int .i64 q3) ∧ M.cell? ⟨wr.heap.size, 3, none⟩ = some (.int .i64 q4)) ∧ Hid (srt ltP (rightOnes (l.take (k + 1))) = put ltP ((q1, q2), (q3, q4)) L) :=
            ⟨x1, x2, x3, x4, Lib.hid ⟨Bc hb3 HWS.out DA.out.1.1, Bc hb3 HWS.out DA.out.1.2.1, Bc hb3 HWS.out DA.out.1.2.2.1, Bc hb3 HWS.out DA.out.1.2.2.2⟩, Lib.hid (by rw [ES.out, EN.out])⟩
          have hbM : wr.heap.size < M.heap.size := Bl hb3 HWS.out
          clear hg3 hb3 B3
          go_wp2_with fail
        case' true =>
          have EN := Lib.hid (show norm ((x1, x2), (x3, x4)) = ((x3, x4), (x1, x2)) by unfold norm; dsimp only; rw [hlt]; rfl)
          have HLT := Lib.hid hlt
          clear hlt
          go_wp2_with fail
          refine (rless_is HLT.out _).mono ?_
          rintro e w1 ⟨rfl, hg3⟩
          have hb3 := hg3.below
          have d1 := Bc hb3 HWS.out DA.out.1.1
          have d2 := Bc hb3 HWS.out DA.out.1.2.1
          have d3 := Bc hb3 HWS.out DA.out.1.2.2.1
          have d4 := Bc hb3 HWS.out DA.out.1.2.2.2
          have f1 := Bf hb3 HWS.out DA.out.2.1
          have f2 := Bf hb3 HWS.out DA.out.2.2.1
          have f3 := Bf hb3 HWS.out DA.out.2.2.2.1
          have f4 := Bf hb3 HWS.out DA.out.2.2.2.2
          have hb1s : wr.heap.size < w1.heap.size := Bl hb3 HWS.out
          have B3 := Lib.hid (Bt (Ba (Below.refl _ wr) (.cells #[.int .i64 x1, .int .i64 x2, .int .i64 x3, .int .i64 x4] 68)) hb3)
          clear hg3 hb3
          go_wp2_with fail
          obtain ⟨M, hM⟩ : ∃ M, M = (((w1.setCell ⟨wr.heap.size, 0, none⟩ (.int .i64 x3)).setCell ⟨wr.heap.size, 1, none⟩ (.int .i64 x4)).setCell ⟨wr.heap.size, 2, none⟩ (.int .i64 x1)).setCell ⟨wr.heap.size, 3, none⟩ (.int .i64 x2) := ⟨_, rfl⟩
          rw [← hM]
          have B4 : RowKit.Below wr.heap.size wr M := by rw [hM]; exact Bs (Bs (Bs (Bs B3.out (Nat.le_refl _) _) (Nat.le_refl _) _) (Nat.le_refl _) _) (Nat.le_refl _) _
          have BM := Lib.hid (Bt HB.out B4)
          have OM := Lib.hid (row_below HO.out B4)
          obtain ⟨q1, q2, q3, q4, D, ET⟩ : ∃ q1 q2 q3 q4 : Int, Hid (M.cell? ⟨wr.heap.size, 0, none⟩ = some (.int .i64 q1) ∧ M.cell? ⟨wr.heap.size, 1, none⟩ = some (.int .i64 q2) ∧ M.cell? ⟨wr.heap.size, 2, none⟩ = some (.int .i64 q3) ∧ M.cell? ⟨wr.heap.size, 3, none⟩ = some (.int .i64 q4)) ∧ Hid (srt ltP (rightOnes (l.take (k + 1))) = put ltP ((q1, q2), (q3, q4)) L) :=
            ⟨x3, x4, x1, x2, Lib.hid (by rw [hM]; exact sc4 d1 d2 d3 d4), Lib.hid (by rw [ES.out, EN.out])⟩
          have hbM : wr.heap.size < M.heap.size := by rw [hM]; simpa using hb1s
          clear hM B4 B3 d1 d2 d3 d4 f1 f2 f3 f4 hb1s
        all_goals
          have HBM : Hid (wr.heap.size < M.heap.size) := hbM
          have HWB2 : Hid (w.heap.size ≤ wr.heap.size) := HWB
          clear HWB HWS DA HB2 HO2 HB HO c1 c2 c3 c4 e0 ES EN HLT hbM
          generalize wr.heap.size = b0 at *
          have hbM := HBM.out
          have hb0w := HWB2.out
          obtain ⟨g, cap2, rfl, hbg, hgl, hlc, hcm⟩ := row_form OM.out HV.out
          have hpe : put ltP ((q1, q2), (q3, q4)) L = if L[headLess ltP ((q1, q2), (q3, q4)) L]? = some ((q1, q2), (q3, q4)) then L else L.take (headLess ltP ((q1, q2), (q3, q4)) L) ++ ((q1, q2), (q3, q4)) :: L.drop (headLess ltP ((q1, q2), (q3, q4)) L) := put_eq _ _
          have hml : cap2 ≤ 9223372036854775807 := by unfold maxLen at hcm; omega
          obtain ⟨H, hH⟩ : ∃ H, H = headLess ltP ((q1, q2), (q3, q4)) L := ⟨_, rfl⟩
          rw [← hH] at hpe
          have hHl : H ≤ L.length := by rw [hH]; exact headLess_le _ _
          have PE := Lib.hid hpe
          have HC := Lib.hid (row_cells OM.out)
          have EH := Lib.hid hH
          have HCM := Lib.hid hcm
          clear hpe hH hcm HV
          go_loopw [6] (fun i wr => ∃ j : Nat, j ≤ H ∧ i = .int .i64 j ∧ Gr M wr) (fun i _ => H - (intOf i).toNat)
          case atStart => exact ⟨0, Nat.zero_le _, rfl, (by repeat (first | with_reducible exact Gr.refl _ | with_reducible assumption | with_reducible apply Gr.alloc | with_reducible apply Gr.drewN | with_reducible apply Gr.drew | with_reducible apply Gr.grow | (with_reducible refine Gr.trans ?_ (by assumption))))⟩
          case round =>
            obtain ⟨j, hj, rfl, hg⟩ := hrel
            have hb1 := hg.below
            have hlw : b0 < wr.heap.size := Bl hb1 hbM
            have hgw : g < wr.heap.size := Bl hb1 hgl
            have d1 := Bc hb1 hbM D.out.1
            have d2 := Bc hb1 hbM D.out.2.1
            have d3 := Bc hb1 hbM D.out.2.2.1
            have d4 := Bc hb1 hbM D.out.2.2.2
            have cat : ∀ i, i < L.length → wr.cell? ⟨g, 0 + i * 4, none⟩ = some (.int .i64 L[i]!.1.1) ∧ wr.cell? ⟨g, 0 + i * 4 + 1, none⟩ = some (.int .i64 L[i]!.1.2) ∧ wr.cell? ⟨g, 0 + i * 4 + 2, none⟩ = some (.int .i64 L[i]!.2.1) ∧ wr.cell? ⟨g, 0 + i * 4 + 3, none⟩ = some (.int .i64 L[i]!.2.2) := fun i hi => by
              obtain ⟨c1, c2, c3, c4⟩ := atP HC.out hi
              exact ⟨Bc hb1 hgl c1, Bc hb1 hgl c2, Bc hb1 hgl c3, Bc hb1 hgl c4⟩
            have CAT := Lib.hid cat
            have HG := Lib.hid hg
            clear cat hb1 hg
            by_cases hjn : j < L.length
            · obtain ⟨c1, c2, c3, c4⟩ := CAT.out j hjn
              simp only [Nat.zero_add] at c1 c2 c3 c4
              have hstep := Lib.hid (headLess_step (by rw [← EH.out]; exact hj : j ≤ headLess ltP ((q1, q2), (q3, q4)) L) hjn)
              generalize hy : L[j]! = y at c1 c2 c3 c4
              obtain ⟨⟨y1, y2⟩, y3, y4⟩ := y
              dsimp only at c1 c2 c3 c4
              have HY := Lib.hid hy
              clear hy
              have e1 := cell_grown (show (⟨g, j * 4, none⟩ : Addr).block < wr.heap.size from hgw) c1
              have e2 := cell_grown (show (⟨g, j * 4 + 1, none⟩ : Addr).block < wr.heap.size from hgw) c2
              have e3 := cell_grown (show (⟨g, j * 4 + 2, none⟩ : Addr).block < wr.heap.size from hgw) c3
              have e4 := cell_grown (show (⟨g, j * 4 + 3, none⟩ : Addr).block < wr.heap.size from hgw) c4
              have e5 := cell_grown (show (⟨b0, 0, none⟩ : Addr).block < wr.heap.size from hlw) d1
              have e6 := cell_grown (show (⟨b0, 1, none⟩ : Addr).block < wr.heap.size from hlw) d2
              have e7 := cell_grown (show (⟨b0, 2, none⟩ : Addr).block < wr.heap.size from hlw) d3
              have e8 := cell_grown (show (⟨b0, 3, none⟩ : Addr).block < wr.heap.size from hlw) d4
              have hjz : (j : Int) < (L.length : Int) := by omega
              cases hb : ltP ((y1, y2), (y3, y4)) ((q1, q2), (q3, q4))
              · have KH := Lib.hid (show j = H by rw [EH.out]; exact hstep.out.2 (by rw [HY.out]; exact hb))
                have hc := fun n os => pairLess_is hb (grow (wr.drewN n) os)
                go_wp2_with fail
                go_quiet_grown (first | (go_at_call 67; refine Calls.grown_of (hc _ _)))
                go_wp2_with fail
                obtain ⟨W1, hW1⟩ : ∃ W1, W1 = grow (wr.drewN nq) osq := ⟨_, rfl⟩
                have g1 : Gr M W1 := by rw [hW1]; exact HG.out.drewN.grow
                have s1 : wr.heap.size ≤ W1.heap.size := by rw [hW1, size_grow]; exact Nat.le_add_right _ _
                replace c1 : W1.cell? ⟨g, j * 4, none⟩ = some (.int .i64 y1) := by rw [hW1]; exact e1 nq osq
                replace c2 : W1.cell? ⟨g, j * 4 + 1, none⟩ = some (.int .i64 y2) := by rw [hW1]; exact e2 nq osq
                replace c3 : W1.cell? ⟨g, j * 4 + 2, none⟩ = some (.int .i64 y3) := by rw [hW1]; exact e3 nq osq
                replace c4 : W1.cell? ⟨g, j * 4 + 3, none⟩ = some (.int .i64 y4) := by rw [hW1]; exact e4 nq osq
                replace d1 : W1.cell? ⟨b0, 0, none⟩ = some (.int .i64 q1) := by rw [hW1]; exact e5 nq osq
                replace d2 : W1.cell? ⟨b0, 1, none⟩ = some (.int .i64 q2) := by rw [hW1]; exact e6 nq osq
                replace d3 : W1.cell? ⟨b0, 2, none⟩ = some (.int .i64 q3) := by rw [hW1]; exact e7 nq osq
                replace d4 : W1.cell? ⟨b0, 3, none⟩ = some (.int .i64 q4) := by rw [hW1]; exact e8 nq osq
                rw [← hW1]
                have hgw1 : g < W1.heap.size := by omega
                have hlw1 : b0 < W1.heap.size := by omega
                have HG1 := Lib.hid g1
                clear hW1 e1 e2 e3 e4 e5 e6 e7 e8 hc g1 s1 HG
                have e1 := cell_grown (show (⟨g, j * 4, none⟩ : Addr).block < W1.heap.size from hgw1) c1
                have e2 := cell_grown (show (⟨g, j * 4 + 1, none⟩ : Addr).block < W1.heap.size from hgw1) c2
                have e3 := cell_grown (show (⟨g, j * 4 + 2, none⟩ : Addr).block < W1.heap.size from hgw1) c3
                have e4 := cell_grown (show (⟨g, j * 4 + 3, none⟩ : Addr).block < W1.heap.size from hgw1) c4
                have e5 := cell_grown (show (⟨b0, 0, none⟩ : Addr).block < W1.heap.size from hlw1) d1
                have e6 := cell_grown (show (⟨b0, 1, none⟩ : Addr).block < W1.heap.size from hlw1) d2
                have e7 := cell_grown (show (⟨b0, 2, none⟩ : Addr).block < W1.heap.size from hlw1) d3
                have e8 := cell_grown (show (⟨b0, 3, none⟩ : Addr).block < W1.heap.size from hlw1) d4
                by_cases hxy : (((y1, y2), (y3, y4)) : Pr) = ((q1, q2), (q3, q4))
                · obtain ⟨⟨rfl, rfl⟩, rfl, rfl⟩ : (y1 = q1 ∧ y2 = q2) ∧ y3 = q3 ∧ y4 = q4 := by simpa using hxy
                  go_quiet_grown (fail)
                  go_wp2
                  go_roundw
                  case measure => simp [intOf]; omega
                  case rel =>
                    have hk2 : L[j]? = some ((y1, y2), (y3, y4)) := by rw [List.getElem?_eq_getElem hjn, ← HY.out, getElem!_pos L j hjn]
                    have hp : put ltP ((y1, y2), (y3, y4)) L = L := by rw [PE.out, ← KH.out, if_pos hk2]
                    have hB := (HG1.out.drewN (n := nq)).grow (os := osq)
                    exact ⟨k + 1, by omega, by go_num, Bt BM.out hB.below, by simp, by rw [ET.out, hp]; exact row_below OM.out hB.below⟩
                · have e9 : decide ((((y1, y2), (y3, y4)) : Pr) = ((q1, q2), (q3, q4))) = false := decide_eq_false hxy
                  have e10 : (decide (y1 = q1) && decide (y2 = q2) && (decide (y3 = q3) && decide (y4 = q4))) = false := by
                    rw [← e9]; simp [Bool.and_assoc]
                  have hk2 : ¬ L[j]? = some ((q1, q2), (q3, q4)) := by rw [List.getElem?_eq_getElem hjn]; intro h; apply hxy; rw [← HY.out, getElem!_pos L j hjn]; exact Option.some.inj h
                  have HP := Lib.hid (show put ltP ((q1, q2), (q3, q4)) L = L.take j ++ ((q1, q2), (q3, q4)) :: L.drop j by rw [PE.out, ← KH.out, if_neg hk2])
                  clear hk2 hxy
                  go_quiet_grown (fail)
                  go_wp2_with fail
                  obtain ⟨W2, hW2⟩ : ∃ W2, W2 = grow (W1.drewN nq) osq := ⟨_, rfl⟩
                  have g2 : Gr M W2 := by rw [hW2]; exact HG1.out.drewN.grow
                  replace d1 : W2.cell? ⟨b0, 0, none⟩ = some (.int .i64 q1) := by rw [hW2]; exact e5 nq osq
                  replace d2 : W2.cell? ⟨b0, 1, none⟩ = some (.int .i64 q2) := by rw [hW2]; exact e6 nq osq
                  replace d3 : W2.cell? ⟨b0, 2, none⟩ = some (.int .i64 q3) := by rw [hW2]; exact e7 nq osq
                  replace d4 : W2.cell? ⟨b0, 3, none⟩ = some (.int .i64 q4) := by rw [hW2]; exact e8 nq osq
                  rw [← hW2]
                  clear hW2 e1 e2 e3 e4 e5 e6 e7 e8 e9 e10 c1 c2 c3 c4
                  have b2 := g2.below
                  have hgW2 : g < W2.heap.size := Bl b2 hgl
                  have B2 := Lib.hid (Bt BM.out b2)
                  have O2 := Lib.hid (row_below OM.out b2)
                  have C2 := Lib.hid (fun j' u (hu : (flat encP L)[j']? = some u) => Bc b2 hgl (HC.out j' u hu))
                  have SLD := Lib.hid (fun W (hb : RowKit.Below W2.heap.size W2 W) => (show Sl encP W (.slice (if cap2 = j then some ⟨g, 0, none⟩ else some ⟨g, j * 4, none⟩) (L.length - j) (cap2 - j)) (L.drop j) by rw [if_neg (by omega)]; have := sl_drop lenP (w := W) j (by omega : j ≤ L.length) hlc HCM.out (Bl hb hgW2) (fun j' u hu => Bc hb hgW2 (C2.out j' u hu)); rwa [Nat.zero_add] at this))
                  have A3 := Lib.hid (Ba (Bd (Below.refl _ W2)) (.cells #[.int .i64 q1, .int .i64 q2, .int .i64 q3, .int .i64 q4] 68))
                  have O3 := Lib.hid (show (W2.drew.alloc (.cells #[.int .i64 q1, .int .i64 q2, .int .i64 q3, .int .i64 q4] 68)).ownsRow W2.heap.size 68 4 (.slice (some ⟨W2.heap.size, 0, none⟩) 1 1) 1 (flat encP [((q1, q2), (q3, q4))]) from World.ownsRow_lit W2.drew #[.int .i64 q1, .int .i64 q2, .int .i64 q3, .int .i64 q4] 1 (Nat.le_refl _) (by unfold maxLen; omega) rfl)
                  have hsz2 := B2.out.size
                  have hjc : j ≤ cap2 := by omega
                  have hjl : j ≤ L.length := by omega
                  clear b2 g2
                  go_region_law (first
                    | (refine step_app apP rfl (.tmp 59) (.tmp 62) rfl W2.heap.size (by rfl) (by rfl) O3.out rfl (SLD.out _ A3.out) (by simp; omega) A3.out.size ?_; intro v1 w3 hown1 hgrow1 hnil1; have b3 := grownB A3.out O3.out hgrow1; have B3 := Lib.hid (Bt B2.out b3); have S3 := Lib.hid (row_sl lenP hown1 (by first | (simp; done) | (simp; omega))); have O5 := Lib.hid (row_front lenP (row_below O2.out b3) rfl j (by omega)); clear hown1 hgrow1 hnil1 b3)
                    | (refine step_app apP rfl (.tmp 57) (.tmp 63) rfl w.heap.size (by rfl) (by rfl) O5.out (by first | (simp; done) | (simp; omega)) S3.out (by simp; omega) B3.out.size ?_; intro v2 w4 hown2 hgrow2 hnil2))
                  have b4 := grownB B3.out O5.out hgrow2
                  have hrow : w4.ownsRow w.heap.size 68 4 v2 (srt ltP (rightOnes (l.take (k + 1)))).length (flat encP (srt ltP (rightOnes (l.take (k + 1))))) := by
                    have e1 : L.take j ++ ([((q1, q2), (q3, q4))] ++ L.drop j) = put ltP ((q1, q2), (q3, q4)) L := by rw [HP.out]; simp
                    rw [e1, ← List.length_append, e1, ← ET.out] at hown2
                    exact hown2
                  have hv2 : v2 ≠ .slice none 0 0 := fun h => by have := (hnil2.1 h).1; simp at this
                  clear hown2 hgrow2 hnil2
                  go_wp2
                  go_roundw
                  case measure => simp [intOf]; omega
                  case rel => exact ⟨k + 1, by omega, by go_num, b4, hv2, hrow⟩
              · have hc := fun n os => pairLess_is hb (grow (wr.drewN n) os)
                have hjH : j + 1 ≤ H := by rw [EH.out]; exact hstep.out.1 (by rw [HY.out]; exact hb)
                go_wp2_with fail
                go_quiet_grown (first | (go_at_call 67; refine Calls.grown_of (hc _ _)))
                go_wp2
                go_roundw
                case measure => simp [intOf]; omega
                case rel => exact ⟨j + 1, hjH, by go_num, (HG.out.drewN).grow⟩
            · have KL := Lib.hid (show j = L.length by omega)
              have hjz : ¬ (j : Int) < (L.length : Int) := by omega
              have hk2 : ¬ L[H]? = some ((q1, q2), (q3, q4)) := by rw [List.getElem?_eq_none (by omega)]; simp
              have hHj : H = j := by omega
              have HP := Lib.hid (show put ltP ((q1, q2), (q3, q4)) L = L.take j ++ ((q1, q2), (q3, q4)) :: L.drop j by rw [PE.out, if_neg hk2, hHj])
              clear hk2 hHj
              go_wp2_with fail
              go_quiet_grown (fail)
              have g1 : Gr M (grow (wr.drewN nq) osq) := HG.out.drewN.grow
              generalize grow (wr.drewN nq) osq = W0 at g1 ⊢
              go_wp2_with fail
              have HG1 := Lib.hid g1
              have hb1 := g1.below
              have d1 := Bc hb1 hbM D.out.1
              have d2 := Bc hb1 hbM D.out.2.1
              have d3 := Bc hb1 hbM D.out.2.2.1
              have d4 := Bc hb1 hbM D.out.2.2.2
              have hlw1 : b0 < W0.heap.size := Bl hb1 hbM
              have e5 := cell_grown (show (⟨b0, 0, none⟩ : Addr).block < W0.heap.size from hlw1) d1
              have e6 := cell_grown (show (⟨b0, 1, none⟩ : Addr).block < W0.heap.size from hlw1) d2
              have e7 := cell_grown (show (⟨b0, 2, none⟩ : Addr).block < W0.heap.size from hlw1) d3
              have e8 := cell_grown (show (⟨b0, 3, none⟩ : Addr).block < W0.heap.size from hlw1) d4
              clear hb1 g1
              go_quiet_grown (fail)
              go_wp2_with fail
              obtain ⟨W2, hW2⟩ : ∃ W2, W2 = grow (W0.drewN nq) osq := ⟨_, rfl⟩
              have g2 : Gr M W2 := by rw [hW2]; exact HG1.out.drewN.grow
              replace d1 : W2.cell? ⟨b0, 0, none⟩ = some (.int .i64 q1) := by rw [hW2]; exact e5 nq osq
              replace d2 : W2.cell? ⟨b0, 1, none⟩ = some (.int .i64 q2) := by rw [hW2]; exact e6 nq osq
              replace d3 : W2.cell? ⟨b0, 2, none⟩ = some (.int .i64 q3) := by rw [hW2]; exact e7 nq osq
              replace d4 : W2.cell? ⟨b0, 3, none⟩ = some (.int .i64 q4) := by rw [hW2]; exact e8 nq osq
              rw [← hW2]
              clear hW2 e5 e6 e7 e8
              have b2 := g2.below
              have hgW2 : g < W2.heap.size := Bl b2 hgl
              have B2 := Lib.hid (Bt BM.out b2)
              have O2 := Lib.hid (row_below OM.out b2)
              have C2 := Lib.hid (fun j' u (hu : (flat encP L)[j']? = some u) => Bc b2 hgl (HC.out j' u hu))
              have SLD := Lib.hid (fun W (hb : RowKit.Below W2.heap.size W2 W) => (show Sl encP W (.slice (if cap2 = j then some ⟨g, 0, none⟩ else some ⟨g, j * 4, none⟩) (L.length - j) (cap2 - j)) (L.drop j) from ⟨_, cap2 - j, by rw [List.length_drop], by rw [List.length_drop]; omega, by have := HCM.out; omega, fun h => absurd h (by rw [List.length_drop]; have := KL.out; omega)⟩))
              have A3 := Lib.hid (Ba (Bd (Below.refl _ W2)) (.cells #[.int .i64 q1, .int .i64 q2, .int .i64 q3, .int .i64 q4] 68))
              have O3 := Lib.hid (show (W2.drew.alloc (.cells #[.int .i64 q1, .int .i64 q2, .int .i64 q3, .int .i64 q4] 68)).ownsRow W2.heap.size 68 4 (.slice (some ⟨W2.heap.size, 0, none⟩) 1 1) 1 (flat encP [((q1, q2), (q3, q4))]) from World.ownsRow_lit W2.drew #[.int .i64 q1, .int .i64 q2, .int .i64 q3, .int .i64 q4] 1 (Nat.le_refl _) (by unfold maxLen; omega) rfl)
              have hsz2 := B2.out.size
              have hjc : j ≤ cap2 := by omega
              have hjl : j ≤ L.length := by omega
              clear b2 g2
              go_region_law (first
                | (refine step_app apP rfl (.tmp 59) (.tmp 62) rfl W2.heap.size (by rfl) (by rfl) O3.out rfl (SLD.out _ A3.out) (by simp; omega) A3.out.size ?_; intro v1 w3 hown1 hgrow1 hnil1; have b3 := grownB A3.out O3.out hgrow1; have B3 := Lib.hid (Bt B2.out b3); have S3 := Lib.hid (row_sl lenP hown1 (by first | (simp; done) | (simp; omega))); have O5 := Lib.hid (row_front lenP (row_below O2.out b3) rfl j (by omega)); clear hown1 hgrow1 hnil1 b3)
                | (refine step_app apP rfl (.tmp 57) (.tmp 63) rfl w.heap.size (by rfl) (by rfl) O5.out (by first | (simp; done) | (simp; omega)) S3.out (by simp; omega) B3.out.size ?_; intro v2 w4 hown2 hgrow2 hnil2))
              have b4 := grownB B3.out O5.out hgrow2
              have hrow : w4.ownsRow w.heap.size 68 4 v2 (srt ltP (rightOnes (l.take (k + 1)))).length (flat encP (srt ltP (rightOnes (l.take (k + 1))))) := by
                have e1 : L.take j ++ ([((q1, q2), (q3, q4))] ++ L.drop j) = put ltP ((q1, q2), (q3, q4)) L := by rw [HP.out]; simp
                rw [e1, ← List.length_append, e1, ← ET.out] at hown2
                exact hown2
              have hv2 : v2 ≠ .slice none 0 0 := fun h => by have := (hnil2.1 h).1; simp at this
              clear hown2 hgrow2 hnil2
              go_wp2
              go_roundw
              case measure => simp [intOf]; omega
              case rel => exact ⟨k + 1, by omega, by go_num, b4, hv2, hrow⟩
    · have hkn' : k = l.length := by omega
      rw [hkn', List.take_length] at ho
      have HO := Lib.hid ho
      clear ho hkn'
      go_wp2
      go_ret
      exact ⟨_, rfl, HO.out, hb⟩
end Go.Proofs.YtbodefigeiaodaaDoor
