/-
  RegionSums: the walk.
-/
import Derived.Test.YtklpemcchfmdjaaDoorAl15
namespace Go.Proofs.YtklpemcchfmdjaaDoor
set_option linter.unusedSimpArgs false
set_option linter.unusedVariables false
open Go.RowKit Go.Sort Go.Lib Go.Shelf

set_option maxHeartbeats 8000000 in
set_option maxRecDepth 100000 in
theorem regionSums_walk (g : Gd) (l : List Int) (v : Value) (w : World) (A : Nat → Addr) (hs : Sl encI w v l) (hE : Er4 w (114, .pointer (some (A 0))) (114, .pointer (some (A 7))) (114, .pointer (some (A 5))) (114, .pointer (some (A 6)))) :
    Calls Tryd.prog 5 #[grV g, v] w fun e w' => e = .returned (.bool true) ∧ RowKit.Below w.heap.size w w' := by
  have HE := Lib.hid hE
  have AL := Lib.hid (fun W' (hb : RowKit.Below w.heap.size w W') => alive_call W' (HE.out.below hb))
  obtain ⟨qv, capv, rfl, v1, v2, v3⟩ := hs
  unfold maxLen at v2
  have HV := Lib.hid v3
  obtain ⟨W0, hW0⟩ : ∃ W0, W0 = w.alloc (.cells #[.int .i64 g.w, .int .i64 g.h, .int .i64 g.s, .int .i64 g.x, .int .i64 g.y] 23) := ⟨_, rfl⟩
  have B0 : Hid (RowKit.Below w.heap.size w W0) := Lib.hid (by rw [hW0]; exact (by repeat (first | with_reducible exact Below.refl _ _ | with_reducible assumption | with_reducible apply Ba | with_reducible apply Bd | with_reducible apply Bn | with_reducible apply Bg | (with_reducible refine Bs ?_ (by first | (simp; done) | (simp; omega)) _) | (with_reducible refine Bt ?_ (by assumption)) | (with_reducible refine Bt ?_ (Gr.below (by assumption))))))
  have G0 : Hid (GrAt W0 w.heap.size g) := Lib.hid (by rw [hW0]; exact heap_alloc_new w _)
  have HW0 := Lib.hid hW0
  have E0 := Lib.hid (HE.out.below B0.out)
  clear hE v3 hW0
  cases hg : grOk g
  · have NC := Lib.hid (fun W' (hb : RowKit.Below w.heap.size w W') => rgnew_form g W' _ (HE.out.below hb).eF hg)
    obtain ⟨W, H, S, X, Y⟩ := g
    dsimp only at *
    clear hg
    go_enter Tryd.func5, Tryd.ntmps5
    go_wp2_with fail
    rw [← HW0.out]
    refine (AL.out _ B0.out).mono ?_
    rintro e w1 ⟨rfl, hb1⟩
    have B1 := Lib.hid (Bt B0.out hb1)
    obtain ⟨x1, x2, x3, x4, x5⟩ := (G0.out.below hb1).cells
    have hl1 := cell_lt x1
    clear hb1
    go_wp2_with fail
    refine (NC.out _ B1.out).mono ?_
    rintro e w2 ⟨rfl, hb2⟩
    have B2 := Lib.hid (Bt B1.out hb2)
    clear hb2
    go_wp2
    go_ret
    exact ⟨rfl, B2.out⟩
  · have hn := ntl_cast hg
    have NC := Lib.hid (fun W' => rgnew_call g W' hg)
    have LL := Lib.hid (fun b => labG_len hg b)
    obtain ⟨W, H, S, X, Y⟩ := g
    dsimp only at *
    obtain ⟨hn1, hn2, hn3⟩ := hn
    have hN := hn1.symm
    obtain ⟨n, hnn⟩ : ∃ n, n = ntl ⟨W, H, S, X, Y⟩ := ⟨_, rfl⟩
    rw [← hnn] at hN hn2 hn3 NC LL
    have HNN := Lib.hid hnn
    clear hn1 hg hnn
    go_enter Tryd.func5, Tryd.ntmps5
    go_wp2_with fail
    rw [← HW0.out]
    refine (AL.out _ B0.out).mono ?_
    rintro e w1 ⟨rfl, hb1⟩
    have A1 := Lib.hid hb1
    obtain ⟨x1, x2, x3, x4, x5⟩ := (G0.out.below hb1).cells
    have hl1 := cell_lt x1
    clear hb1
    go_wp2_with fail
    refine (NC.out _).mono ?_
    rintro e w2 ⟨pa, rfl, hr2, hb2⟩
    unfold psR
    have A2 := Lib.hid (Bt A1.out hb2)
    have R2 := Lib.hid (show RgO W0 ⟨W, H, S, X, Y⟩ pa (nots n) w2 from ⟨_, hr2, fun k e => e.elim (fun e => e.elim) (fun e => ⟨Nat.le_trans A1.out.size e.1, e.2⟩), A2.out⟩)
    have B2 := Lib.hid (B0.out.trans (A2.out.mono B0.out.size))
    clear hr2 hb2 x1 x2 x3 x4 x5 hl1
    obtain ⟨x1, x2, x3, x4, x5⟩ := (G0.out.below A2.out).cells
    have hl2 := cell_lt x1
    by_cases h200 : l.length > 200
    · have hz : (l.length : Int) > 200 := by omega
      go_wp2
      go_ret
      exact ⟨rfl, B2.out⟩
    · have hz : ¬ (l.length : Int) > 200 := by omega
      go_wp2_with fail
      clear x1 x2 x3 x4 x5 hl2
      go_loopw [36] (fun i wr => ∃ (k : Nat) (b : List Bool), k ≤ l.length ∧ i = .int .i64 k ∧ Hid (RgO W0 ⟨W, H, S, X, Y⟩ pa b wr)) (fun i _ => l.length - (intOf i).toNat)
      case atStart => exact ⟨0, _, Nat.zero_le _, rfl, R2⟩
      case round =>
        obtain ⟨k, b, hk, rfl, hR⟩ := hrel
        by_cases hkn : k < l.length
        · have hkz : (k : Int) < (l.length : Int) := by omega
          obtain ⟨gb, ob, rfl, hg1, hg2⟩ := HV.out (by omega)
          have z1 := sl_cell1 encI1' hg2 hkn
          replace z1 := Bc (B0.out.trans (hR.out.lo.mono B0.out.size)) hg1 z1
          have hgw := cell_lt z1
          generalize l[k]! = x at *
          obtain ⟨m, hm9, he⟩ := idx_any x n (by omega) (by omega)
          have hz2 : ¬ (n : Int) = 0 := by omega
          have hul : IntKind.u64.wrap (n : Int) = n := by rw [IntKind.wrap_u64]; omega
          have BC := Lib.hid (hR.out.block1 (m : Int) _ _ E0.out.eR E0.out.eB)
          unfold psR at BC
          clear hg2
          go_wp2_with fail
          refine BC.out.mono ?_
          rintro e w5 ⟨rfl, hr5⟩
          have R5 := Lib.hid hr5
          clear hr5 BC z1
          go_wp2
          go_roundw
          case measure => simp only [intOf]; omega
          case rel => exact ⟨k + 1, _, by omega, by go_num, R5⟩
        · obtain rfl : k = l.length := by omega
          have hkz : ¬ (l.length : Int) < (l.length : Int) := by omega
          have LB := Lib.hid (by obtain ⟨M, h1, h2, h3⟩ := hR.out; exact labels_call h1)
          have hrt : Rooted (labG ⟨W, H, S, X, Y⟩ b) := labs_rooted _
          have hll := LL.out b
          have SZ := Lib.hid (fun W' (hb : RowKit.Below wr.heap.size wr W') t => by obtain ⟨M, h1, h2, h3⟩ := hR.out; exact size_call (h1.below hb) t)
          have TG := Lib.hid (fun W' (hb : RowKit.Below wr.heap.size wr W') s t => by obtain ⟨M, h1, h2, h3⟩ := hR.out; exact together_call (h1.below hb) s t)
          have CN := Lib.hid (fun W' (hb : RowKit.Below wr.heap.size wr W') => by obtain ⟨M, h1, h2, h3⟩ := hR.out; exact rgcount_call (h1.below hb))
          have BW := Lib.hid (B0.out.trans (hR.out.lo.mono B0.out.size))
          rw [← HNN.out] at CN
          unfold psR at LB SZ TG CN
          generalize labG ⟨W, H, S, X, Y⟩ b = L at *
          have HRT := Lib.hid hrt
          have HLL := Lib.hid hll
          clear hrt hll
          generalize wr = w6 at *
          go_wp2_with fail
          refine LB.out.mono ?_
          rintro e w7 ⟨vl, rfl, ho7, hb7⟩
          have HO7 := Lib.hid ho7
          obtain ⟨q7, cap7, rfl, y1, y2, y3⟩ := row_val ho7
          have HQ7 := Lib.hid y3
          have B7 := Lib.hid hb7
          unfold maxLen at y2
          rw [HLL.out] at y1
          have HO7' : Hid (w7.ownsRow w6.heap.size 3 1 (.slice q7 n cap7) n (flat encI L)) := Lib.hid (by have := ho7; unfold OwnI at this; rw [HLL.out] at this; exact this)
          have hll2 : L.length = n := HLL.out
          rw [hll2]
          clear ho7 hb7 y3 LB HO7
          go_wp2_with fail
          go_loopw [10, 11, 12, 53] (fun f su ma i wx => ∃ j : Nat, j ≤ n ∧ i = .int .i64 j ∧ f = .int .i64 (freeN L j : Int) ∧ su = .int .i64 (sumR L j : Int) ∧ ma = .int .i64 (rootN L j : Int) ∧ Hid (RowKit.Below w7.heap.size w7 wx)) (fun _ _ _ i _ => n - (intOf i).toNat)
          case atStart => exact ⟨0, Nat.zero_le _, rfl, rfl, rfl, rfl, Lib.hid (Below.refl _ _)⟩
          case round =>
            obtain ⟨j, hj, rfl, rfl, rfl, rfl, hb⟩ := hrel
            have HB6 := Lib.hid (Bt B7.out hb.out)
            by_cases hjn : j < n
            · have hjz : (j : Int) < (n : Int) := by omega
              obtain ⟨g7, rfl, hg7, -⟩ := HQ7.out (by omega)
              have ct := Bc hb.out hg7 (row_cell1 encI1' HO7'.out j (by omega))
              have hgw := cell_lt ct
              have hlo := HRT.out.lo j (by omega)
              have hro := HRT.out.root j (by omega)
              have fN := freeN_succ (L := L) (k := j) (by omega)
              have rN := rootN_succ L j
              have sN : sumR L (j + 1) = sumR L j + if L[j]! = (j : Int) then cntL L j else 0 := rfl
              have f1 := freeN_le L j
              have r1 := rootN_le L j
              have s1 : sumR L j ≤ 1024 := by rw [sumR_low HRT.out j (by omega)]; have := lowN_le L j; omega
              have s2 : sumR L (j + 1) ≤ 1024 := by rw [sumR_low HRT.out (j + 1) (by omega)]; have := lowN_le L ((j + 1 : Nat) : Int); omega
              have SZt := Lib.hid (fun W' hb => SZ.out W' hb (j : Int))
              have SZl := Lib.hid (fun W' hb => SZ.out W' hb L[j]!)
              have TGt := Lib.hid (fun W' hb => TG.out W' hb L[j]! (j : Int))
              by_cases hx : L[j]! = -1
              · rw [if_neg (by omega)] at fN
                rw [if_neg (by omega)] at rN sN
                have F1 := Lib.hid fN
                have R1 := Lib.hid rN
                have S1 := Lib.hid sN
                have e0 : (L[j]! == -1) = true := by simpa using hx
                have e1 : decide (L[j]! = -1) = true := decide_eq_true hx
                generalize L[j]! = x at *
                clear hx hlo hro fN rN sN hll2 SZt SZl TGt
                go_wp2
                go_roundw
                case measure => simp only [intOf]; omega
                case rel => exact ⟨j + 1, by omega, by go_num, by rw [F1.out]; rfl, by rw [S1.out]; rfl, by rw [R1.out]; rfl, hb⟩
              · have hx0 : 0 ≤ L[j]! := by omega
                have hro := hro hx0
                rw [if_pos hx0] at fN
                have e0 : (L[j]! == -1) = false := by simpa using hx
                have e1 : decide (L[j]! = -1) = false := decide_eq_false hx
                have e2 : ¬ L[j]! > (j : Int) := by omega
                have d1 : decide (0 ≤ L[j]!) = true := decide_eq_true hx0
                have d2 : decide (L[j]! < (L.length : Int)) = true := decide_eq_true (by omega)
                have d3 : decide ((0 : Int) ≤ (j : Int)) = true := decide_eq_true (by omega)
                have d4 : decide ((j : Int) < (L.length : Int)) = true := decide_eq_true (by omega)
                have tg : togI L L[j]! (j : Int) = true := by
                  unfold togI inT
                  rw [Int.toNat_natCast, hro, d1, d2, d3, d4, decide_eq_true rfl]
                  rfl
                have sz1 : sizeI L (j : Int) = (cntL L L[j]! : Int) := by
                  unfold sizeI inT
                  rw [Int.toNat_natCast, d1, d3, d4]
                  rfl
                have sz2 : sizeI L L[j]! = (cntL L L[j]! : Int) := by
                  unfold sizeI inT
                  rw [hro, d1, d2]
                  rfl
                clear d1 d2 d3 d4
                rw [tg] at TGt
                rw [sz1] at SZt
                rw [sz2] at SZl
                have c1 : cntL L L[j]! ≤ 1024 := by
                  unfold cntL
                  exact Nat.le_trans (List.length_filter_le _ _) (by omega)
                have F1 := Lib.hid fN
                by_cases hxj : L[j]! = (j : Int)
                · rw [if_pos hxj] at rN sN
                  rw [← hxj] at sN
                  have R1 := Lib.hid rN
                  have S1 := Lib.hid sN
                  have e3 : (L[j]! == (j : Int)) = true := by simpa using hxj
                  have e4 : decide (L[j]! = (j : Int)) = true := decide_eq_true hxj
                  generalize cntL L L[j]! = cn at *
                  generalize L[j]! = x at *
                  generalize hss : sumR L j = ss at *
                  generalize hff : freeN L j = ff at *
                  generalize hrr : rootN L j = rr at *
                  clear hx hx0 hlo hro fN rN sN hll2 tg sz1 sz2 hxj hss hff hrr
                  go_wp2_with fail
                  refine (TGt.out _ HB6.out).mono ?_
                  rintro e w8 ⟨rfl, hb8⟩
                  have Q8 := Lib.hid (Bt HB6.out hb8)
                  have P8 := Lib.hid (Bt hb.out hb8)
                  clear hb8
                  go_wp2_with fail
                  refine (SZt.out _ Q8.out).mono ?_
                  rintro e w9 ⟨rfl, hb9⟩
                  have Q9 := Lib.hid (Bt Q8.out hb9)
                  have P9 := Lib.hid (Bt P8.out hb9)
                  clear hb9
                  go_wp2_with fail
                  refine (SZl.out _ Q9.out).mono ?_
                  rintro e w10 ⟨rfl, hb10⟩
                  have Q10 := Lib.hid (Bt Q9.out hb10)
                  have P10 := Lib.hid (Bt P9.out hb10)
                  clear hb10
                  go_wp2_with fail
                  refine (SZt.out _ Q10.out).mono ?_
                  rintro e w11 ⟨rfl, hb11⟩
                  have P11 := Lib.hid (Bt P10.out hb11)
                  clear hb11
                  go_wp2
                  go_roundw
                  case measure => simp only [intOf]; omega
                  case rel => exact ⟨j + 1, by omega, by go_num, by rw [F1.out]; go_num, by rw [S1.out]; go_num, by rw [R1.out]; go_num, P11⟩
                · rw [if_neg hxj, Nat.add_zero] at rN sN
                  have R1 := Lib.hid rN
                  have S1 := Lib.hid sN
                  have e3 : (L[j]! == (j : Int)) = false := by simpa using hxj
                  have e4 : decide (L[j]! = (j : Int)) = false := decide_eq_false hxj
                  generalize cntL L L[j]! = cn at *
                  generalize L[j]! = x at *
                  generalize hss : sumR L j = ss at *
                  generalize hff : freeN L j = ff at *
                  generalize hrr : rootN L j = rr at *
                  clear hx hx0 hlo hro fN rN sN hll2 tg sz1 sz2 hxj hss hff hrr
                  go_wp2_with fail
                  refine (TGt.out _ HB6.out).mono ?_
                  rintro e w8 ⟨rfl, hb8⟩
                  have Q8 := Lib.hid (Bt HB6.out hb8)
                  have P8 := Lib.hid (Bt hb.out hb8)
                  clear hb8
                  go_wp2_with fail
                  refine (SZt.out _ Q8.out).mono ?_
                  rintro e w9 ⟨rfl, hb9⟩
                  have Q9 := Lib.hid (Bt Q8.out hb9)
                  have P9 := Lib.hid (Bt P8.out hb9)
                  clear hb9
                  go_wp2_with fail
                  refine (SZl.out _ Q9.out).mono ?_
                  rintro e w10 ⟨rfl, hb10⟩
                  have Q10 := Lib.hid (Bt Q9.out hb10)
                  have P10 := Lib.hid (Bt P9.out hb10)
                  clear hb10
                  go_wp2
                  go_roundw
                  case measure => simp only [intOf]; omega
                  case rel => exact ⟨j + 1, by omega, by go_num, by rw [F1.out]; go_num, by rw [S1.out]; rfl, by rw [R1.out]; rfl, P10⟩
            · obtain rfl : j = n := by omega
              have hsf : sumR L j = freeN L j := by
                rw [sumR_low HRT.out j (by omega), ← hll2, free_low HRT.out]
              rw [hsf]
              have f1 := freeN_le L j
              generalize freeN L j = ff at *
              generalize rootN L j = rr at *
              have hjz : ¬ (j : Int) < (j : Int) := by omega
              clear hsf hll2
              go_wp2_with fail
              refine (CN.out _ HB6.out).mono ?_
              rintro e w8 ⟨rfl, hb8⟩
              have Q8 := Lib.hid (BW.out.trans ((Bt HB6.out hb8).mono BW.out.size))
              clear hb8
              go_wp2
              go_ret
              exact ⟨rfl, Q8.out⟩
end Go.Proofs.YtklpemcchfmdjaaDoor
