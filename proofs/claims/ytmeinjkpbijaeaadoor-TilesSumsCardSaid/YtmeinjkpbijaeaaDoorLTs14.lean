/-
  TilesSums: the walk.
-/
import Derived.Test.YtmeinjkpbijaeaaDoorEq14
import Derived.Test.YtmeinjkpbijaeaaDoorBl14
namespace Go.Proofs.YtmeinjkpbijaeaaDoor
set_option linter.unusedSimpArgs false
set_option linter.unusedVariables false
open Go.RowKit Go.Sort Go.Lib Go.Shelf

theorem sumL_nonneg {c : List Int} {K : Int} (h : Bdd c K) : 0 ≤ sumL c := by
  have h2 : ∀ x ∈ c, 0 ≤ x := fun x hx => by
    obtain ⟨i, hi, rfl⟩ := List.getElem_of_mem hx
    have := (h i hi).1
    rwa [getElem!_pos c i hi] at this
  clear h
  induction c with
  | nil => simp [sumL]
  | cons a r ih =>
    have := ih (fun x hx => h2 x (List.mem_cons_of_mem _ hx))
    have := h2 a List.mem_cons_self
    simp only [sumL, List.foldr_cons] at *
    omega
theorem sumL_bd : ∀ {c : List Int} {K : Int}, (∀ x ∈ c, 0 ≤ x ∧ x ≤ K) → ∀ k, 0 ≤ sumL (c.take k) ∧ sumL (c.take k) ≤ sumL c
  | [], _, _, k => by simp [sumL]
  | a :: r, K, h, 0 => by
    have := sumL_bd (c := r) (K := K) (fun x hx => h x (List.mem_cons_of_mem _ hx)) 0
    have := h a List.mem_cons_self
    simp only [sumL, List.take_zero, List.foldr_nil, List.foldr_cons] at *
    omega
  | a :: r, K, h, k + 1 => by
    have := sumL_bd (c := r) (K := K) (fun x hx => h x (List.mem_cons_of_mem _ hx)) k
    have := h a List.mem_cons_self
    simp only [sumL, List.take_succ_cons, List.foldr_cons] at *
    omega
theorem bdd_mem {c : List Int} {K : Int} (h : Bdd c K) : ∀ x ∈ c, 0 ≤ x ∧ x ≤ K := fun x hx => by
  obtain ⟨i, hi, rfl⟩ := List.getElem_of_mem hx
  have := h i hi
  rwa [getElem!_pos c i hi] at this
theorem sum_up {g : Gd} {c : List Int} {B : List Bx4} (h : Stand g c B) (b : Bx4) : sumL (upd 1 c (und g b)) = sumL c + (und g b).length := by
  rw [sumL_upd 1 _ _ (fun t ht => by have := und_mem ht; rw [h.1]; omega)]
  omega
theorem stand_take {g : Gd} {c : List Int} {l : List Bx4} {k : Nat} (hk : k < l.length) (h : Stand g c (l.take k)) : Stand g (upd 1 c (und g l[k]!)) (l.take (k + 1)) := (h.put l[k]!).congr (covN_take g hk)
/-- A round's bounds. -/
theorem stand_bd {g : Gd} {c : List Int} {l : List Bx4} {k : Nat} (h : Stand g c (l.take k)) (hk : k ≤ l.length) (hl : l.length ≤ 1000) : Bdd c 1000 := h.bd.mono (by rw [List.length_take]; omega)
set_option maxHeartbeats 8000000 in
set_option maxRecDepth 100000 in
theorem tilesSums_walk (g : Gd) (l : List Bx4) (v : Value) (w : World) (aF : Addr) (hs : Sl encX w v l) (hE : w.cell? ⟨0, 0, none⟩ = some (.iface 101 (.pointer (some aF)))) : Calls Tryd.prog 7 #[grV g, v] w fun e w' => e = .returned (.bool true) ∧ RowKit.Below w.heap.size w w' := by
  have AL := Lib.hid (fun W' => alive_call W')
  obtain ⟨qv, capv, rfl, v1, v2, v3⟩ := hs
  unfold maxLen at v2
  have HV := Lib.hid v3
  have HE := Lib.hid hE
  clear hE v3
  cases hg : grOk g
  · have NC := Lib.hid (fun W' (hb : RowKit.Below w.heap.size w W') => new_form g W' (101, .pointer (some aF)) (Bc hb (cell_lt HE.out) HE.out) hg)
    obtain ⟨W, H, S, X, Y⟩ := g
    have RC := Lib.hid (fun W' => tright_any W H S X Y W')
    rw [hg] at RC
    clear hg
    by_cases hl : l.length > 60
    · have hz : (l.length : Int) > 60 := by omega
      go_enter Tryd.func7, Tryd.ntmps7
      go_wp2_with fail
      refine (AL.out _).mono ?_
      rintro e w1 ⟨rfl, hb1⟩
      have k1 := blk_below (heap_alloc_new w (.cells #[.int .i64 W, .int .i64 H, .int .i64 S, .int .i64 X, .int .i64 Y] 23)) hb1
      obtain ⟨x1, x2, x3, x4, x5⟩ := cells5 k1
      have hl1 := cell_lt x1
      have B1 := Lib.hid (by exact (by repeat (first | with_reducible exact Below.refl _ _ | with_reducible assumption | with_reducible apply Ba | with_reducible apply Bd | with_reducible apply Bn | with_reducible apply Bg | (with_reducible refine Bs ?_ (by first | (simp; done) | (simp; omega)) _) | (with_reducible refine Bt ?_ (by assumption)) | (with_reducible refine Bt ?_ (Gr.below (by assumption))))) : RowKit.Below w.heap.size w w1)
      clear hb1 k1
      go_wp2_with fail
      refine (NC.out _ B1.out).mono ?_
      rintro e w2 ⟨rfl, hb2⟩
      have B2 := Lib.hid (Bt B1.out hb2)
      clear hb2
      go_wp2
      go_ret
      exact ⟨rfl, B2.out⟩
    · have hz : ¬ (l.length : Int) > 60 := by omega
      go_enter Tryd.func7, Tryd.ntmps7
      go_wp2_with fail
      refine (AL.out _).mono ?_
      rintro e w1 ⟨rfl, hb1⟩
      have k1 := blk_below (heap_alloc_new w (.cells #[.int .i64 W, .int .i64 H, .int .i64 S, .int .i64 X, .int .i64 Y] 23)) hb1
      have K1 := Lib.hid k1
      obtain ⟨x1, x2, x3, x4, x5⟩ := cells5 k1
      have hl1 := cell_lt x1
      have B1 := Lib.hid (by exact (by repeat (first | with_reducible exact Below.refl _ _ | with_reducible assumption | with_reducible apply Ba | with_reducible apply Bd | with_reducible apply Bn | with_reducible apply Bg | (with_reducible refine Bs ?_ (by first | (simp; done) | (simp; omega)) _) | (with_reducible refine Bt ?_ (by assumption)) | (with_reducible refine Bt ?_ (Gr.below (by assumption))))) : RowKit.Below w.heap.size w w1)
      clear hb1 k1
      go_wp2_with fail
      refine (NC.out _ B1.out).mono ?_
      rintro e w2 ⟨rfl, hb2⟩
      have B2 := Lib.hid (Bt B1.out hb2)
      have k2 := blk_below K1.out hb2
      clear hb2 x1 x2 x3 x4 x5
      obtain ⟨x1, x2, x3, x4, x5⟩ := cells5 k2
      have hl2 := cell_lt x1
      clear k2
      go_wp2_with fail
      refine (RC.out _).mono ?_
      rintro e w3 ⟨rfl, hb3⟩
      have B3 := Lib.hid (Bt B2.out hb3)
      clear hb3
      go_wp2
      go_ret
      exact ⟨rfl, B3.out⟩
  · have hn := ntl_cast hg
    have NC := Lib.hid (fun W' => new_call g W' hg)
    have UC := Lib.hid (fun b W' => tunder_call g b W')
    have ULn := Lib.hid (fun b => Nat.le_trans (und_len g b) hn.2.1)
    have S0 := Lib.hid (Stand.none g)
    have Z0 := Lib.hid (sumL_zs (ntl g))
    have ST := Lib.hid (fun c k hk h => @stand_take g c l k hk h)
    have SU := Lib.hid (fun c B h b => @sum_up g c B h b)
    have LN := Lib.hid (fun c B (h : Stand g c B) => h.1)
    obtain ⟨W, H, S, X, Y⟩ := g
    obtain ⟨hn1, hn2, hn3⟩ := hn
    have hN := hn1.symm
    dsimp only at hN
    clear hn1 hg
    obtain ⟨n, hnn⟩ : ∃ n, n = ntl ⟨W, H, S, X, Y⟩ := ⟨_, rfl⟩
    rw [← hnn] at hN hn2 hn3 Z0 S0 LN NC
    have HNN := Lib.hid hnn
    clear hnn
    obtain ⟨W0, hW0⟩ : ∃ W0, W0 = w.alloc (.cells #[.int .i64 W, .int .i64 H, .int .i64 S, .int .i64 X, .int .i64 Y] 23) := ⟨_, rfl⟩
    have B0 : Hid (RowKit.Below w.heap.size w W0) := Lib.hid (by rw [hW0]; exact (by repeat (first | with_reducible exact Below.refl _ _ | with_reducible assumption | with_reducible apply Ba | with_reducible apply Bd | with_reducible apply Bn | with_reducible apply Bg | (with_reducible refine Bs ?_ (by first | (simp; done) | (simp; omega)) _) | (with_reducible refine Bt ?_ (by assumption)) | (with_reducible refine Bt ?_ (Gr.below (by assumption))))))
    have G0 : Hid (GrAt W0 w.heap.size ⟨W, H, S, X, Y⟩) := Lib.hid (by rw [hW0]; exact heap_alloc_new w _)
    have HW0 := Lib.hid hW0
    clear hW0
    go_enter Tryd.func7, Tryd.ntmps7
    go_wp2_with fail
    rw [← HW0.out]
    refine (AL.out _).mono ?_
    rintro e w1 ⟨rfl, hb1⟩
    have B1 := Lib.hid (Bt B0.out hb1)
    have G1 := Lib.hid (G0.out.below hb1)
    obtain ⟨x1, x2, x3, x4, x5⟩ := G1.out.cells
    have hl1 := G1.out.lt
    clear hb1
    go_wp2_with fail
    refine (NC.out _).mono ?_
    rintro e w2 ⟨pa, rfl, hm2, hb2⟩
    unfold ptP
    have B2 := Lib.hid (Bt B1.out hb2)
    have G2 := Lib.hid (G1.out.below hb2)
    obtain ⟨M, hMd⟩ : ∃ M, M = Fresh w1 w2 := ⟨_, rfl⟩
    rw [← hMd] at hm2
    have HM : Hid (∀ b, M b → w.heap.size + 1 ≤ b ∧ b < w2.heap.size) := Lib.hid (fun b e => by rw [hMd] at e; exact e.elim (fun e => e.elim) (fun e => ⟨Nat.le_trans hl1 e.1, e.2⟩))
    have HM2 := Lib.hid hm2
    clear hb2 hMd hm2 x1 x2 x3 x4 x5 hl1
    by_cases hl : l.length > 60
    · have hz : (l.length : Int) > 60 := by omega
      go_wp2
      go_ret
      exact ⟨rfl, B2.out⟩
    · have hz : ¬ (l.length : Int) > 60 := by omega
      go_wp2_with fail
      go_loopw [7, 36] (fun s i wr => ∃ (k : Nat) (c : List Int), k ≤ l.length ∧ i = .int .i64 k ∧ s = .int .i64 (sumL c) ∧ Hid (MpAt 74 wr M pa ⟨W, H, S, X, Y⟩ c) ∧ Hid (Stand ⟨W, H, S, X, Y⟩ c (l.take k)) ∧ Hid (Tch M w2 wr) ∧ 0 ≤ sumL c ∧ sumL c ≤ 1024 * k) (fun _ i _ => l.length - (intOf i).toNat)
      case atStart => exact ⟨0, _, Nat.zero_le _, rfl, by rw [Z0.out], HM2, S0, Lib.hid (Tch.refl _ _), by rw [Z0.out]; omega, by rw [Z0.out]; omega⟩
      case round =>
        obtain ⟨k, c, hk, rfl, rfl, hm, hst, ht, hs0, hs1⟩ := hrel
        have hwr := ht.out.size
        by_cases hkn : k < l.length
        · have hkz : (k : Int) < (l.length : Int) := by omega
          obtain ⟨gb, ob, rfl, hg1, hg2⟩ := HV.out (by omega)
          obtain ⟨z1, z2, z3, z4⟩ := atX hg2 hkn
          have hb2s := B2.out.size
          have tcell := fun {o : Nat} {u : Value} (h : w.cell? ⟨gb, o, none⟩ = some u) => ht.out.cell (Bl B2.out hg1) (fun e => by have := (HM.out _ e).1; omega) (Bc B2.out hg1 h)
          replace z1 := tcell z1
          replace z2 := tcell z2
          replace z3 := tcell z3
          replace z4 := tcell z4
          have hgw := cell_lt z1
          clear tcell
          have hS9 := ST.out c k hkn hst.out
          have hU9 := SU.out c _ hst.out l[k]!
          have hB9 := Lib.hid (stand_bd hst.out hk (by omega))
          have hL9 := ULn.out l[k]!
          generalize l[k]! = b at *
          obtain ⟨b1, b2, b3, b4⟩ := b
          dsimp only at z1 z2 z3 z4
          have UCb := Lib.hid (fun W' => UC.out (b1, b2, b3, b4) W')
          have PCb := Lib.hid (fun W' hm' hM' => put_call (w := W') (pa := pa) (M := M) (g := ⟨W, H, S, X, Y⟩) (c := c) hm' hM' hB9.out (b1, b2, b3, b4))
          have HS9 := Lib.hid hS9
          generalize und ⟨W, H, S, X, Y⟩ (b1, b2, b3, b4) = u at *
          generalize freeL c u = fu at *
          generalize hc' : upd 1 c u = c' at *
          have G3 := Lib.hid ((G2.out.kept ht.out (fun e => by have := (HM.out _ e).1; omega)).below (Ba (Below.refl _ wr) (.cells #[.int .i64 b1, .int .i64 b2, .int .i64 b3, .int .i64 b4] 37)))
          obtain ⟨x1, x2, x3, x4, x5⟩ := G3.out.cells
          have hl3 := G3.out.lt
          have K3 := Lib.hid (heap_alloc_new wr (.cells #[.int .i64 b1, .int .i64 b2, .int .i64 b3, .int .i64 b4] 37))
          have M3 := Lib.hid (hm.out.below (Ba (Below.refl _ wr) (.cells #[.int .i64 b1, .int .i64 b2, .int .i64 b3, .int .i64 b4] 37)))
          have T3 := Lib.hid (ht.out.alloc (.cells #[.int .i64 b1, .int .i64 b2, .int .i64 b3, .int .i64 b4] 37))
          clear hS9 hc' hg2
          go_wp2_with fail
          refine (UCb.out _).mono ?_
          rintro e w4 ⟨v4, rfl, ho4, hb4⟩
          obtain ⟨q4, cap4, rfl, -, -, -⟩ := row_val ho4
          have K4 := Lib.hid (blk_below K3.out hb4)
          obtain ⟨y1, y2, y3, y4⟩ := cells4 K4.out
          have hm4 := cell_lt y1
          have M4 := Lib.hid (M3.out.below hb4)
          have T4 := Lib.hid (T3.out.bel hb4)
          have hlu : (u.length : Int) ≤ 1024 := by omega
          clear ho4 hb4 x1 x2 x3 x4 x5 hl3
          go_wp2_with fail
          refine (PCb.out _ M4.out (fun b e => by have := (HM.out _ e).2; have := T4.out.size; omega)).mono ?_
          rintro e w5 ⟨v5, rfl, -, hm5, ht5⟩
          have M5 := Lib.hid hm5
          have T5 := Lib.hid (T4.out.more ht5)
          have hsm : sumL c + (u.length : Int) = sumL c' := hU9.symm
          have hsb : 0 ≤ sumL c' ∧ sumL c' ≤ 1024 * ((k : Int) + 1) := by omega
          generalize hsc' : sumL c' = s' at *
          have HSC' := Lib.hid hsc'
          generalize sumL c = s at *
          clear hm5 ht5 y1 y2 y3 y4 hm4 hU9 z1 z2 z3 z4 hsc'
          go_wp2
          go_roundw
          case measure => simp only [intOf]; omega
          case rel => exact ⟨k + 1, c', by omega, by go_num, by rw [HSC'.out], M5, HS9, T5, by rw [HSC'.out]; exact hsb.1, by rw [HSC'.out]; omega⟩
        · obtain rfl : k = l.length := by omega
          rw [List.take_length] at hst
          have hB9 := Lib.hid (Bdd.mono hst.out.bd (show (l.length : Int) ≤ 1000 by omega))
          have hcl := LN.out c _ hst.out
          have G6 := Lib.hid (G2.out.kept ht.out (fun e => by have := (HM.out _ e).1; omega))
          generalize wr = w6 at *
          obtain ⟨x1, x2, x3, x4, x5⟩ := G6.out.cells
          have hl6 := G6.out.lt
          have SB := Lib.hid (fun k => sumL_bd (bdd_mem hB9.out) k)
          have STk := Lib.hid (fun k (hk : k < n) => @sumL_take c k (by omega))
          have BKs := Lib.hid (fun k => blkK_succ c k)
          have BKl := Lib.hid (fun k => blkK_len c k)
          have MC := Lib.hid (fun t => mcount_call hm.out t)
          have MF := Lib.hid (fun t => mfree_call hm.out t)
          have MB := Lib.hid (mblk_call hm.out)
          rw [show blkL c = blkK c n from by unfold blkL; rw [hcl]] at MB
          have STn : Hid (sumL (c.take n) = sumL c) := Lib.hid (by rw [← hcl, List.take_length])
          have ST0 : Hid (sumL (c.take 0) = 0) := Lib.hid rfl
          have BK0 : Hid ((blkK c 0).length = 0) := Lib.hid rfl
          have BT := Lib.hid (B2.out.trans (Tch.below ht.out (fun b e => show w.heap.size ≤ b by have := (HM.out _ e).1; omega) B2.out.size))
          generalize hsc : sumL c = s at *
          clear hwr
          go_wp2_with fail
          go_loopw [7, 10, 55] (fun s' b i wr => ∃ j : Nat, j ≤ n ∧ i = .int .i64 j ∧ s' = .int .i64 (s - sumL (c.take j)) ∧ b = .int .i64 ((blkK c j).length : Int) ∧ wr = w6) (fun _ _ i _ => n - (intOf i).toNat)
          case atStart => exact ⟨0, Nat.zero_le _, rfl, by rw [ST0.out]; simp, by rw [BK0.out]; rfl, rfl⟩
          case round =>
            obtain ⟨j, hj, rfl, rfl, rfl, rfl⟩ := hrel
            by_cases hjn : j < n
            · have hjz : (j : Int) < (n : Int) := by omega
              have hjt : hasT c (j : Int) = true := hasT_iff.2 (by omega)
              have CJ := MC.out (j : Int)
              have FJ := MF.out (j : Int)
              unfold cntT at CJ
              unfold freeT at FJ
              rw [hjt, Int.toNat_natCast] at CJ FJ
              rw [if_pos rfl] at CJ
              rw [Bool.true_and] at FJ
              have b0 := hB9.out j (by omega)
              have t1 := STk.out j hjn
              have t2 := SB.out j
              have t3 := SB.out (j + 1)
              have k1 := BKs.out j
              have k2 := BKl.out j
              generalize hp0 : sumL (c.take j) = p0 at *
              generalize hp1 : sumL (c.take (j + 1)) = p1 at *
              have HP1 := Lib.hid hp1
              have hpe : s - p0 - c[j]! = s - p1 := by omega
              have hpw : wrap64 (s - p0 - c[j]!) = s - p1 := by rw [hpe]; exact IntWalk.wrap64_in _ ⟨by omega, by omega⟩
              have HPW := Lib.hid (show wrap64 (s - p1) = s - p1 from IntWalk.wrap64_in _ ⟨by omega, by omega⟩)
              by_cases hx : c[j]! = 0
              · rw [decide_eq_true hx] at FJ
                rw [if_neg (by omega), List.append_nil] at k1
                have HK1 := Lib.hid k1
                have CJ' := Lib.hid CJ
                have FJ' := Lib.hid FJ
                generalize c[j]! = x at *
                generalize hb0 : (blkK c j).length = b1 at *
                have HB0 := Lib.hid hb0
                clear CJ FJ k1 t1 t2 t3 hp0 hp1 hx b0 hb0
                go_wp2_with fail
                refine CJ'.out.mono ?_
                rintro e w7 ⟨rfl, rfl⟩
                go_wp2_with fail
                refine FJ'.out.mono ?_
                rintro e w8 ⟨rfl, rfl⟩
                go_wp2
                go_roundw
                case measure => simp only [intOf]; omega
                case rel => exact ⟨j + 1, by omega, by go_num, by rw [HP1.out, HPW.out], by rw [HK1.out, HB0.out], by trivial⟩
              · rw [decide_eq_false hx] at FJ
                rw [if_pos (by omega)] at k1
                have HK1 := Lib.hid k1
                have CJ' := Lib.hid CJ
                have FJ' := Lib.hid FJ
                generalize c[j]! = x at *
                generalize hb0 : (blkK c j).length = b1 at *
                have HB0 := Lib.hid hb0
                clear CJ FJ k1 t1 t2 t3 hp0 hp1 hx b0 hb0
                go_wp2_with fail
                refine CJ'.out.mono ?_
                rintro e w7 ⟨rfl, rfl⟩
                go_wp2_with fail
                refine FJ'.out.mono ?_
                rintro e w8 ⟨rfl, rfl⟩
                go_wp2
                go_roundw
                case measure => simp only [intOf]; omega
                case rel => exact ⟨j + 1, by omega, by go_num, by rw [HP1.out, HPW.out], by rw [HK1.out, List.length_append, HB0.out]; go_num, by trivial⟩
            · obtain rfl : j = n := by omega
              have hjz : ¬ (j : Int) < (j : Int) := by omega
              rw [STn.out]
              have hss : s - s = 0 := by omega
              rw [hss]
              generalize blkK c j = bl at *
              go_wp2_with fail
              refine MB.out.mono ?_
              rintro e w7 ⟨v7, rfl, ho7, hb7⟩
              obtain ⟨q7, cap7, rfl, -, -, -⟩ := row_val ho7
              have B7 := Lib.hid hb7
              clear ho7 hb7
              go_wp2
              go_ret
              exact ⟨rfl, BT.out.trans (B7.out.mono (by have := B2.out.size; have := ht.out.size; omega))⟩
end Go.Proofs.YtmeinjkpbijaeaaDoor
