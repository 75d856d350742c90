/-
  The reference: Ends.
-/
import Derived.Test.YtbodefigeiaodaaDoorRp11
import Derived.Test.YtbodefigeiaodaaDoorRg11
import Derived.Deep.RegionLaw
namespace Go.Proofs.YtbodefigeiaodaaDoor
set_option linter.unusedSimpArgs false
set_option linter.unusedVariables false
open Go.RowKit Go.Sort Go.Lib Go.Shelf

set_option maxHeartbeats 1000000 in
/-- less, at ends: the world has only grown. -/
theorem lessG_is {a b : En} {v : Bool} (h : ltE a b = v) (w : World) :
    Calls Tryd.prog 44 #[aggE a, aggE b] w fun e w' => e = .returned (.bool v) ∧ Gr w w' := by
  subst h
  obtain ⟨a1, a2, a3, a4⟩ := a
  obtain ⟨b1, b2, b3, b4⟩ := b
  unfold aggE
  by_cases e1 : a1 = b1
  · subst e1
    cases a2 <;> cases b2
    case false.false =>
      cases hh : ltH (a3, a4) (b3, b4)
      all_goals
        go_enter Tryd.func44, Tryd.ntmps44
        go_wp2_with fail
        refine (rless_is hh _).mono ?_
        rintro e w2 ⟨rfl, hg2⟩
        go_wp2
        go_ret
        exact ⟨ret_bool (by simp [ltE, hh]), (by repeat (first | with_reducible exact Gr.refl _ | with_reducible assumption | with_reducible apply Gr.alloc | with_reducible apply Gr.drewN | with_reducible apply Gr.drew | with_reducible apply Gr.grow | (with_reducible refine Gr.trans ?_ (by assumption))))⟩
    case true.true =>
      cases hh : ltH (a3, a4) (b3, b4)
      all_goals
        go_enter Tryd.func44, Tryd.ntmps44
        go_wp2_with fail
        refine (rless_is hh _).mono ?_
        rintro e w2 ⟨rfl, hg2⟩
        go_wp2
        go_ret
        exact ⟨ret_bool (by simp [ltE, hh]), (by repeat (first | with_reducible exact Gr.refl _ | with_reducible assumption | with_reducible apply Gr.alloc | with_reducible apply Gr.drewN | with_reducible apply Gr.drew | with_reducible apply Gr.grow | (with_reducible refine Gr.trans ?_ (by assumption))))⟩
    case false.true =>
      go_enter Tryd.func44, Tryd.ntmps44
      go_wp2
      go_ret
      exact ⟨ret_bool (by simp [ltE]), (by repeat (first | with_reducible exact Gr.refl _ | with_reducible assumption | with_reducible apply Gr.alloc | with_reducible apply Gr.drewN | with_reducible apply Gr.drew | with_reducible apply Gr.grow | (with_reducible refine Gr.trans ?_ (by assumption))))⟩
    case true.false =>
      go_enter Tryd.func44, Tryd.ntmps44
      go_wp2
      go_ret
      exact ⟨ret_bool (by simp [ltE]), (by repeat (first | with_reducible exact Gr.refl _ | with_reducible assumption | with_reducible apply Gr.alloc | with_reducible apply Gr.drewN | with_reducible apply Gr.drew | with_reducible apply Gr.grow | (with_reducible refine Gr.trans ?_ (by assumption))))⟩
  · go_enter Tryd.func44, Tryd.ntmps44
    have hne : (a1 != b1) = true := by simpa using e1
    go_wp2
    go_ret
    exact ⟨ret_bool (by simp [ltE, e1]), (by repeat (first | with_reducible exact Gr.refl _ | with_reducible assumption | with_reducible apply Gr.alloc | with_reducible apply Gr.drewN | with_reducible apply Gr.drew | with_reducible apply Gr.grow | (with_reducible refine Gr.trans ?_ (by assumption))))⟩
theorem lit8 {w : World} {b : Nat} {t : TypeId} {a1 a2 a3 a4 a5 a6 a7 a8 : Value} (h : w.heap[b]? = some (.cells #[a1, a2, a3, a4, a5, a6, a7, a8] t (0, 0))) :
    (w.cell? ⟨b, 0, none⟩ = some a1 ∧ w.cell? ⟨b, 1, none⟩ = some a2 ∧ w.cell? ⟨b, 2, none⟩ = some a3 ∧ w.cell? ⟨b, 3, none⟩ = some a4) ∧ w.cell? ⟨b, 4, none⟩ = some a5 ∧ w.cell? ⟨b, 5, none⟩ = some a6 ∧ w.cell? ⟨b, 6, none⟩ = some a7 ∧ w.cell? ⟨b, 7, none⟩ = some a8 := by
  refine ⟨⟨?_, ?_, ?_, ?_⟩, ?_, ?_, ?_, ?_⟩ <;> simp [World.cell?, h]

set_option maxHeartbeats 8000000 in
set_option maxRecDepth 100000 in
/-- The reference's Ends. -/
theorem refEnds_call (B : List Spn) (v : Value) (w : World) (hl : Sl encSp w v B) (hn : B.length ≤ 100) (hO : Once B) :
    Calls Tryd.prog 18 #[v] w fun e w' => ∃ v', e = .returned v' ∧ w'.ownsRow w.heap.size 54 4 v' (endsL B).length (flat encE (endsL B)) ∧ RowKit.Below w.heap.size w w' := by
  obtain ⟨p0, c0, rfl, v1, v2, v3⟩ := hl
  unfold maxLen at v2
  have HV := Lib.hid v3
  have HONE := Lib.hid hO
  have hz : (B.length : Int) ≤ 100 := by omega
  have mixed : Tryd.prog.follows .mixedOrders = true := by kernel_rfl
  clear v3 hO
  go_enter Tryd.func18, Tryd.ntmps18
  go_wp2
  go_loopw [3, 12] (fun vb u wr => ∃ k : Nat, u = .int .i64 k ∧ k ≤ B.length ∧ RowKit.Below w.heap.size w wr ∧ vb ≠ .slice none 0 0 ∧ wr.ownsRow w.heap.size 54 4 vb (endsL (B.take k)).length (flat encE (endsL (B.take k)))) (fun _ u _ => B.length - (intOf u).toNat)
  case atStart => exact ⟨0, rfl, Nat.zero_le _, (by repeat (first | with_reducible exact Below.refl _ _ | with_reducible assumption | with_reducible apply Ba | with_reducible apply Bd | with_reducible apply Bn | with_reducible apply Bg | (with_reducible refine Bs ?_ (by first | (simp; done) | (simp; omega)) _) | (with_reducible refine Bt ?_ (by assumption)) | (with_reducible refine Bt ?_ (Gr.below (by assumption))))), by simp, World.ownsRow_made w #[] 0 (Nat.le_refl _) (Nat.zero_le _) (by simp)⟩
  case round =>
    obtain ⟨k, rfl, hk, hb, hv, ho⟩ := hrel
    have HO := Lib.hid ho
    have HB := Lib.hid hb
    have HVN := Lib.hid hv
    clear ho hb hv
    by_cases hkn : k < B.length
    · obtain ⟨g0, o0, rfl, hg1, hg2⟩ := HV.out (by omega)
      obtain ⟨c1, c2, c3, c4⟩ := atSp hg2 hkn
      replace c1 := Bc HB.out hg1 c1
      replace c2 := Bc HB.out hg1 c2
      replace c3 := Bc HB.out hg1 c3
      replace c4 := Bc HB.out hg1 c4
      have HST := Lib.hid (endsL_take B hkn)
      have HPU := Lib.hid (fun (j : Nat) (hj : j < 2) => midE_put HONE.out hkn hj)
      have hl0 : (endsL (B.take k)).length ≤ 200 := by
        have h1 := endsL_len (B.take k)
        have h2 := List.length_take_le' k B
        omega
      have HML := Lib.hid (fun (j : Nat) => midE_len B[k]! (endsL (B.take k)) j)
      have HSL : Hid (B[k]!.1.1 = B[k]!.1.1) := Lib.hid rfl
      generalize hx : B[k]! = x at *
      obtain ⟨⟨x1, x2⟩, x3, x4⟩ := x
      dsimp only at c1 c2 c3 c4
      generalize endsL (B.take k) = E at *
      clear hg2 hx HSL
      obtain ⟨M, hM⟩ : ∃ M, M = (wr.alloc (.cells #[.int .i64 x1, .int .i64 x2, .int .i64 x3, .int .i64 x4] 34)).alloc (.cells #[.int .i64 x3, .bool false, .int .i64 x1, .int .i64 x2, .int .i64 x4, .bool true, .int .i64 x1, .int .i64 x2] 54) := ⟨_, rfl⟩
      have bM : RowKit.Below wr.heap.size wr M := by rw [hM]; exact Ba (Ba (Below.refl _ _) _) _
      have BM := Lib.hid (Bt HB.out bM)
      have OM := Lib.hid (row_below HO.out bM)
      have hlb : M.heap[wr.heap.size + 1]? = some (.cells #[.int .i64 x3, .bool false, .int .i64 x1, .int .i64 x2, .int .i64 x4, .bool true, .int .i64 x1, .int .i64 x2] 54 (0, 0)) := by
        rw [hM]
        have := heap_alloc_new (wr.alloc (.cells #[.int .i64 x1, .int .i64 x2, .int .i64 x3, .int .i64 x4] 34)) (.cells #[.int .i64 x3, .bool false, .int .i64 x1, .int .i64 x2, .int .i64 x4, .bool true, .int .i64 x1, .int .i64 x2] 54)
        simpa using this
      have hlM : wr.heap.size + 1 < M.heap.size := by rw [hM]; simp
      have HC8 := Lib.hid (lit8 hlb)
      have HLM := Lib.hid hlM
      have HMM := Lib.hid hM
      clear hlb hlM hM bM
      go_wp2
      rw [← HMM.out]
      clear HMM c1 c2 c3 c4
      have HWLB := Lib.hid (show w.heap.size ≤ wr.heap.size + 1 from Nat.le_succ_of_le HB.out.size)
      have HGN := Lib.hid (show ∀ g, u3.ownBlock = some g → g ≠ wr.heap.size + 1 from fun g hg => by have := row_lt HO.out hg; omega)
      have HCE := Lib.hid (show ∀ j, j < 2 → M.cell? ⟨wr.heap.size + 1, j * 4, none⟩ = some (.int .i64 (eN ((x1, x2), x3, x4) j).1) ∧ M.cell? ⟨wr.heap.size + 1, j * 4 + 1, none⟩ = some (.bool (eN ((x1, x2), x3, x4) j).2.1) ∧ M.cell? ⟨wr.heap.size + 1, j * 4 + 2, none⟩ = some (.int .i64 (eN ((x1, x2), x3, x4) j).2.2.1) ∧ M.cell? ⟨wr.heap.size + 1, j * 4 + 3, none⟩ = some (.int .i64 (eN ((x1, x2), x3, x4) j).2.2.2) from fun j hj => by
        rcases (show j = 0 ∨ j = 1 by omega) with rfl | rfl
        · exact HC8.out.1
        · exact HC8.out.2)
      clear HO HB HC8
      generalize wr.heap.size + 1 = lb at *
      obtain ⟨wo, rfl⟩ : ∃ wo, wo = wr := ⟨_, rfl⟩
      go_loopw [3, 28] (fun vb u wr => ∃ j : Nat, u = .int .i64 j ∧ j ≤ 2 ∧ vb ≠ .slice none 0 0 ∧ wr.ownsRow w.heap.size 54 4 vb (midE ((x1, x2), x3, x4) E j).length (flat encE (midE ((x1, x2), x3, x4) E j)) ∧ (∀ g, vb.ownBlock = some g → g ≠ lb) ∧ Tch (fun b => w.heap.size ≤ b ∧ b ≠ lb) M wr) (fun _ u _ => 2 - (intOf u).toNat)
      case atStart => exact ⟨0, rfl, Nat.zero_le _, HVN.out, OM.out, HGN.out, Tch.refl _ _⟩
      case round =>
        clear OM HVN HGN
        obtain ⟨j0, rfl, hj0, hv, ho, hgn, ht⟩ := hrel
        have HO := Lib.hid ho
        have HVN := Lib.hid hv
        have HGN := Lib.hid hgn
        have HT := Lib.hid ht
        have HB := Lib.hid (show RowKit.Below w.heap.size w wr from BM.out.trans (Tch.below ht (fun b e => e.1) BM.out.size))
        have hlr : lb < wr.heap.size := Nat.lt_of_lt_of_le HLM.out ht.size
        clear ho hv hgn ht
        by_cases hj2 : j0 < 2
        · obtain ⟨c1, c2, c3, c4⟩ := HCE.out j0 hj2
          have hnl : ¬ (w.heap.size ≤ lb ∧ lb ≠ lb) := fun e => e.2 rfl
          replace c1 := HT.out.cell HLM.out hnl c1
          replace c2 := HT.out.cell HLM.out hnl c2
          replace c3 := HT.out.cell HLM.out hnl c3
          replace c4 := HT.out.cell HLM.out hnl c4
          have hpu := HPU.out j0 hj2
          have hLl : (midE ((x1, x2), x3, x4) E j0).length ≤ 300 := by have := HML.out j0; omega
          generalize midE ((x1, x2), x3, x4) E j0 = L at *
          generalize eN ((x1, x2), x3, x4) j0 = q at *
          obtain ⟨q1, q2, q3, q4⟩ := q
          dsimp only at c1 c2 c3 c4
          obtain ⟨H, hH⟩ : ∃ H, H = headLess ltE (q1, q2, q3, q4) L := ⟨_, rfl⟩
          rw [← hH] at hpu
          have hHl : H ≤ L.length := by rw [hH]; exact headLess_le _ _
          have PE := Lib.hid hpu
          have EH := Lib.hid hH
          clear hpu hH hnl
          obtain ⟨g, cap2, rfl, hbg, hgl, hlc, hcm⟩ := row_form HO.out HVN.out
          have hgb : g ≠ lb := HGN.out g rfl
          have hml : cap2 ≤ 9223372036854775807 := by unfold maxLen at hcm; omega
          have HC := Lib.hid (row_cells HO.out)
          have HCM := Lib.hid hcm
          obtain ⟨M2, hM2⟩ : ∃ M2, M2 = wr.alloc (.cells #[.int .i64 q1, .bool q2, .int .i64 q3, .int .i64 q4] 54) := ⟨_, rfl⟩
          have bM2 : RowKit.Below wr.heap.size wr M2 := by rw [hM2]; exact Ba (Below.refl _ _) _
          have D := Lib.hid (show M2.cell? ⟨wr.heap.size, 0, none⟩ = some (.int .i64 q1) ∧ M2.cell? ⟨wr.heap.size, 1, none⟩ = some (.bool q2) ∧ M2.cell? ⟨wr.heap.size, 2, none⟩ = some (.int .i64 q3) ∧ M2.cell? ⟨wr.heap.size, 3, none⟩ = some (.int .i64 q4) from by rw [hM2]; exact ⟨by simp, by simp, by simp, by simp⟩)
          have hbM : wr.heap.size < M2.heap.size := by rw [hM2]; simp
          have hgM : g < M2.heap.size := Bl bM2 hgl
          have BM2 := Lib.hid (Bt HB.out bM2)
          have OM2 := Lib.hid (row_below HO.out bM2)
          have HC2 := Lib.hid (fun j' u (hu : (flat encE L)[j']? = some u) => Bc bM2 hgl (HC.out j' u hu))
          have HT2 := Lib.hid (HT.out.more (Tch.of bM2))
          have HM2 := Lib.hid hM2
          clear hM2 bM2 hcm HVN HGN HO HB HT HC
          go_wp2_with fail
          rw [← HM2.out, show decide ((j0 : Int) < 2) = true from decide_eq_true (by omega)]
          clear HM2 c1 c2 c3 c4 hlr
          generalize wr.heap.size = b0 at *
          obtain ⟨wi, rfl⟩ : ∃ wi, wi = wr := ⟨_, rfl⟩
          go_loopw [8] (fun i wr => ∃ j : Nat, j ≤ H ∧ i = .int .i64 j ∧ Gr M2 wr) (fun i _ => H - (intOf i).toNat)
          case atStart => exact ⟨0, Nat.zero_le _, rfl, (by repeat (first | with_reducible exact Gr.refl _ | with_reducible assumption | with_reducible apply Gr.alloc | with_reducible apply Gr.drewN | with_reducible apply Gr.drew | with_reducible apply Gr.grow | (with_reducible refine Gr.trans ?_ (by assumption))))⟩
          case round =>
            obtain ⟨j, hj, rfl, hg⟩ := hrel
            have hb1 := hg.below
            have hlw : b0 < wr.heap.size := Bl hb1 hbM
            have hgw : g < wr.heap.size := Bl hb1 hgM
            have d1 := Bc hb1 hbM D.out.1
            have d2 := Bc hb1 hbM D.out.2.1
            have d3 := Bc hb1 hbM D.out.2.2.1
            have d4 := Bc hb1 hbM D.out.2.2.2
            have CAT := Lib.hid (show ∀ i, i < L.length → wr.cell? ⟨g, 0 + i * 4, none⟩ = some (.int .i64 L[i]!.1) ∧ wr.cell? ⟨g, 0 + i * 4 + 1, none⟩ = some (.bool L[i]!.2.1) ∧ wr.cell? ⟨g, 0 + i * 4 + 2, none⟩ = some (.int .i64 L[i]!.2.2.1) ∧ wr.cell? ⟨g, 0 + i * 4 + 3, none⟩ = some (.int .i64 L[i]!.2.2.2) from fun i hi => by
              obtain ⟨c1, c2, c3, c4⟩ := atE HC2.out hi
              exact ⟨Bc hb1 hgM c1, Bc hb1 hgM c2, Bc hb1 hgM c3, Bc hb1 hgM c4⟩)
            have HG := Lib.hid hg
            clear hb1 hg
            by_cases hgo : j < L.length ∧ ltE L[j]! (q1, q2, q3, q4) = true
            · obtain ⟨hjn, hb⟩ := hgo
              obtain ⟨c1, c2, c3, c4⟩ := CAT.out j hjn
              simp only [Nat.zero_add] at c1 c2 c3 c4
              have hjH : j + 1 ≤ H := by rw [EH.out]; exact (headLess_step (by rw [← EH.out]; exact hj : j ≤ headLess ltE (q1, q2, q3, q4) L) hjn).1 hb
              generalize L[j]! = y at c1 c2 c3 c4 hb
              obtain ⟨y1, y2, y3, y4⟩ := y
              dsimp only at c1 c2 c3 c4
              have e1 := cell_grown (show (⟨g, j * 4, none⟩ : Addr).block < wr.heap.size from hgw) c1
              have e2 := cell_grown (show (⟨g, j * 4 + 1, none⟩ : Addr).block < wr.heap.size from hgw) c2
              have e3 := cell_grown (show (⟨g, j * 4 + 2, none⟩ : Addr).block < wr.heap.size from hgw) c3
              have e4 := cell_grown (show (⟨g, j * 4 + 3, none⟩ : Addr).block < wr.heap.size from hgw) c4
              have e5 := cell_grown (show (⟨b0, 0, none⟩ : Addr).block < wr.heap.size from hlw) d1
              have e6 := cell_grown (show (⟨b0, 1, none⟩ : Addr).block < wr.heap.size from hlw) d2
              have e7 := cell_grown (show (⟨b0, 2, none⟩ : Addr).block < wr.heap.size from hlw) d3
              have e8 := cell_grown (show (⟨b0, 3, none⟩ : Addr).block < wr.heap.size from hlw) d4
              have hjz : (j : Int) < (L.length : Int) := by omega
              have hc := fun n os => lessG_is hb (grow (wr.drewN n) os)
              unfold aggE at hc
              go_wp2_with fail
              go_quiet_grown (first | (go_at_call 44; refine Calls.grown_of (hc _ _)))
              go_wp2
              go_roundw
              case measure => simp [intOf]; omega
              case rel => exact ⟨j + 1, hjH, by go_num, (HG.out.drewN).grow⟩
            · have hjHe : j = H := by
                by_cases hjn : j < L.length
                · have hst := headLess_step (by rw [← EH.out]; exact hj : j ≤ headLess ltE (q1, q2, q3, q4) L) hjn
                  rw [EH.out]
                  refine hst.2 ?_
                  cases hq : ltE L[j]! (q1, q2, q3, q4) with
                  | false => rfl
                  | true => exact absurd ⟨hjn, hq⟩ hgo
                · omega
              have KH := Lib.hid hjHe
              clear hjHe
              by_cases hjn : j < L.length
              case' pos =>
                obtain ⟨c1, c2, c3, c4⟩ := CAT.out j hjn
                simp only [Nat.zero_add] at c1 c2 c3 c4
                have hb : ltE L[j]! (q1, q2, q3, q4) = false := by
                  cases hq : ltE L[j]! (q1, q2, q3, q4) with
                  | false => rfl
                  | true => exact absurd ⟨hjn, hq⟩ hgo
                generalize L[j]! = y at c1 c2 c3 c4 hb
                obtain ⟨y1, y2, y3, y4⟩ := y
                dsimp only at c1 c2 c3 c4
                have e1 := cell_grown (show (⟨g, j * 4, none⟩ : Addr).block < wr.heap.size from hgw) c1
                have e2 := cell_grown (show (⟨g, j * 4 + 1, none⟩ : Addr).block < wr.heap.size from hgw) c2
                have e3 := cell_grown (show (⟨g, j * 4 + 2, none⟩ : Addr).block < wr.heap.size from hgw) c3
                have e4 := cell_grown (show (⟨g, j * 4 + 3, none⟩ : Addr).block < wr.heap.size from hgw) c4
                have e5 := cell_grown (show (⟨b0, 0, none⟩ : Addr).block < wr.heap.size from hlw) d1
                have e6 := cell_grown (show (⟨b0, 1, none⟩ : Addr).block < wr.heap.size from hlw) d2
                have e7 := cell_grown (show (⟨b0, 2, none⟩ : Addr).block < wr.heap.size from hlw) d3
                have e8 := cell_grown (show (⟨b0, 3, none⟩ : Addr).block < wr.heap.size from hlw) d4
                have hjz : (j : Int) < (L.length : Int) := by omega
                have hc := fun n os => lessG_is hb (grow (wr.drewN n) os)
                unfold aggE at hc
                clear hgo
                go_wp2_with fail
                go_quiet_grown (first | (go_at_call 44; refine Calls.grown_of (hc _ _)))
                go_wp2_with fail
                obtain ⟨W2, hW2⟩ : ∃ W2, W2 = grow (wr.drewN nq) osq := ⟨_, rfl⟩
                have g2 : Gr M2 W2 := by rw [hW2]; exact HG.out.drewN.grow
                rw [← hW2]
                clear hW2 e1 e2 e3 e4 e5 e6 e7 e8 c1 c2 c3 c4 hc hb hjz hjn d1 d2 d3 d4 hlw hgw CAT HG
              case' neg =>
                have hjz : ¬ (j : Int) < (L.length : Int) := by omega
                clear hgo
                go_wp2_with fail
                go_quiet_grown (fail)
                go_wp2_with fail
                obtain ⟨W2, hW2⟩ : ∃ W2, W2 = grow (wr.drewN nq) osq := ⟨_, rfl⟩
                have g2 : Gr M2 W2 := by rw [hW2]; exact HG.out.drewN.grow
                rw [← hW2]
                clear hW2 hjz hjn d1 d2 d3 d4 hlw hgw CAT HG
              all_goals
                have b2 := g2.below
                have hgW2 : g < W2.heap.size := Bl b2 hgM
                have B2 := Lib.hid (Bt BM2.out b2)
                have O2 := Lib.hid (row_below OM2.out b2)
                have C2 := Lib.hid (fun j' u (hu : (flat encE L)[j']? = some u) => Bc b2 hgM (HC2.out j' u hu))
                have T2 := Lib.hid (HT2.out.more (Tch.of b2))
                have d1 := Bc b2 hbM D.out.1
                have d2 := Bc b2 hbM D.out.2.1
                have d3 := Bc b2 hbM D.out.2.2.1
                have d4 := Bc b2 hbM D.out.2.2.2
                have hbW2 : b0 < W2.heap.size := Bl b2 hbM
                have hjl : j ≤ L.length := by have := KH.out; omega
                have SLD := Lib.hid (fun W (hb : RowKit.Below W2.heap.size W2 W) => (show Sl encE W (.slice (if cap2 = j then some ⟨g, 0, none⟩ else some ⟨g, j * 4, none⟩) (L.length - j) (cap2 - j)) (L.drop j) by
                  by_cases hjc2 : j < L.length
                  · rw [if_neg (by omega)]
                    have := sl_drop lenE (w := W) j (by omega : j ≤ L.length) hlc HCM.out (Bl hb hgW2) (fun j' u hu => Bc hb hgW2 (C2.out j' u hu))
                    rwa [Nat.zero_add] at this
                  · exact ⟨_, cap2 - j, by rw [List.length_drop], by rw [List.length_drop]; omega, by have := HCM.out; omega, fun h => absurd h (by rw [List.length_drop]; omega)⟩))
                have A3 := Lib.hid (Ba (Bd (Below.refl _ W2)) (.cells #[.int .i64 q1, .bool q2, .int .i64 q3, .int .i64 q4] 54))
                have O3 := Lib.hid (show (W2.drew.alloc (.cells #[.int .i64 q1, .bool q2, .int .i64 q3, .int .i64 q4] 54)).ownsRow W2.heap.size 54 4 (.slice (some ⟨W2.heap.size, 0, none⟩) 1 1) 1 (flat encE [(q1, q2, q3, q4)]) from World.ownsRow_lit W2.drew #[.int .i64 q1, .bool q2, .int .i64 q3, .int .i64 q4] 1 (Nat.le_refl _) (by unfold maxLen; omega) rfl)
                have hsz2 := B2.out.size
                have hjc : j ≤ cap2 := by omega
                clear b2 g2
                go_region_law (first
                  | (refine step_app2 apR rfl (.tmp 50) (.tmp 53) rfl W2.heap.size (by rfl) (by rfl) O3.out rfl (SLD.out _ A3.out) (by simp; omega) A3.out.size ?_; intro v1 w3 hown1 hgrow1 hat1 hnil1; have b3 := grownB A3.out O3.out hgrow1; have B3 := Lib.hid (Bt B2.out b3); have T3 := Lib.hid (T2.out.more (Tch.of b3)); have S3 := Lib.hid (row_sl lenE hown1 (by first | (simp; done) | (simp; omega))); have O5 := Lib.hid (row_front lenE (row_below O2.out b3) rfl j (by omega)); have hl3 : lb < w3.heap.size := Nat.lt_of_lt_of_le HLM.out T3.out.size; clear hown1 hgrow1 hat1 hnil1 b3)
                  | (refine step_app2 apR rfl (.tmp 48) (.tmp 54) rfl w.heap.size (by rfl) (by rfl) O5.out (by first | (simp; done) | (simp; omega)) S3.out (by first | (simp; done) | (simp; omega)) B3.out.size ?_; intro v2 w4 hown2 hgrow2 hat2 hnil2))
                have T4 := Lib.hid (T3.out.more (Tch.grown hgrow2 (fun b e => by
                  simp only [Value.ownBlock, Option.some.injEq] at e
                  subst e
                  exact ⟨hbg, hgb⟩)))
                have hn4 : ∀ b, v2.ownBlock = some b → b ≠ lb := fun b e => by
                  rcases hat2 with h | h
                  · rw [h] at e
                    simp only [Value.ownBlock, Option.some.injEq] at e
                    subst e
                    exact hgb
                  · rw [h] at e
                    simp only [Option.some.injEq] at e
                    omega
                have e1 : L.take j ++ ([(q1, q2, q3, q4)] ++ L.drop j) = midE ((x1, x2), x3, x4) E (j0 + 1) := by rw [KH.out]; exact PE.out.symm
                rw [e1] at hown2
                have R4 := Lib.hid hown2
                have hv2 : v2 ≠ .slice none 0 0 := fun h => by
                  obtain ⟨p, c, e, _, _, _⟩ := row_val hown2
                  rw [e] at h
                  have h9 := congrArg List.length e1
                  rw [List.length_append, List.length_append] at h9
                  simp only [List.length_cons, List.length_nil] at h9
                  simp only [Value.slice.injEq] at h
                  omega
                have N4 := Lib.hid hn4
                have V4 := Lib.hid hv2
                clear hown2 hgrow2 hat2 hnil2 e1 hn4 hv2
                go_wp2
                go_roundw
                case measure => simp [intOf]; omega
                case rel => exact ⟨j0 + 1, by go_num, by omega, V4.out, R4.out, N4.out, T4.out⟩
        · have hjn : j0 = 2 := by omega
          subst hjn
          have HO2 := Lib.hid HO.out
          rw [← HST.out] at HO2
          clear hj2 HO
          go_wp2
          go_roundw
          case measure => simp only [intOf]; omega
          case rel => exact ⟨k + 1, by go_num, by omega, HB.out, HVN.out, HO2.out⟩
    · have hin : k = B.length := by omega
      subst hin
      have HO2 := Lib.hid HO.out
      rw [List.take_length] at HO2
      go_wp2
      go_ret
      exact ⟨_, rfl, HO2.out, HB.out⟩
end Go.Proofs.YtbodefigeiaodaaDoor
