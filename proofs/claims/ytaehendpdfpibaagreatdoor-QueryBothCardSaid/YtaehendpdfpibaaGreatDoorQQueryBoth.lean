import Derived.Test.YtaehendpdfpibaaGreatDoorZ27
import Derived.Test.YtaehendpdfpibaaGreatDoorZ24
import Derived.Deep.RegionHeld3
import Derived.Test.YtaehendpdfpibaaGreatDoorZ13

/-
  The walk of QueryBoth (written by mkq9.py).
-/
namespace Go.Proofs.YtaehendpdfpibaaGreatDoor
set_option linter.unusedSimpArgs false
set_option linter.unusedVariables false
open Go.RowKit Go.Sort Go.Lib Go.Shelf

section
variable {A : Nat → Addr}
theorem right_len {l : List Vl} (h : RightV l) : l.length ≤ 100000 := by
  have := rowL_len l
  rw [(right_row h).2] at this
  omega
set_option maxHeartbeats 8000000 in
set_option maxRecDepth 100000 in
theorem queryBoth_walk (a b c d : Nat) (ha : a < 18446744073709551616) (hb : b < 18446744073709551616) (hc : c < 18446744073709551616) (hd : d < 18446744073709551616) (l : List Rr) (v : Value) (w : World) (hl : Sl encRr w v l) (hr : ∀ r ∈ l, Sl encV w r.1 r.2) (hE : Er8 w A) (hT : TabW w) :
    Calls Tryz.prog 5 #[qV a b, qV c d, v] w fun e w' => e = .returned (.bool true) ∧ RowKit.Below w.heap.size w w' := by
  have bl : RowKit.Below w.heap.size w ((w.alloc (qB a b)).alloc (qB c d)) := (by repeat (first | with_reducible exact Below.refl _ _ | with_reducible assumption | with_reducible apply Ba | with_reducible apply Bd | with_reducible apply Bn | with_reducible apply Bg | (with_reducible refine Bs ?_ (by first | (simp; done) | (simp; omega)) _) | (with_reducible refine Bt ?_ (by assumption)) | (with_reducible refine Bt ?_ (Gr.below (by assumption)))))
  have BL := Lib.hid bl
  have X0 := Lib.hid (show ((w.alloc (qB a b)).alloc (qB c d)).heap[w.heap.size]? = some (.cells #[.int .u64 (a : Int), .int .u64 (b : Int)] 62 (0, 0)) from blk_below (heap_alloc_new w (qB a b)) (Ba (Below.refl _ _) (qB c d)))
  have X1 := Lib.hid (show ((w.alloc (qB a b)).alloc (qB c d)).heap[w.heap.size + 1]? = some (.cells #[.int .u64 (c : Int), .int .u64 (d : Int)] 62 (0, 0)) from by have := heap_alloc_new (w.alloc (qB a b)) (qB c d); rwa [show (w.alloc (qB a b)).heap.size = w.heap.size + 1 by simp] at this)
  have C0 := Lib.hid (alive9_any ((w.alloc (qB a b)).alloc (qB c d)) (A 4) (hE.below bl).e7.er.kind)
  have HRw := Lib.hid (show ∀ W, RowKit.Below w.heap.size w W → ∀ r ∈ l, Sl encV W r.1 r.2 from fun W hb r h => (hr r h).below hb)
  have HV := Lib.hid (show ∀ W, RowKit.Below w.heap.size w W → Sl encRr W v l from fun W hb => hl.below hb)
  have CF : Hid (∀ W, RowKit.Below w.heap.size w W → Calls Tryz.prog 21 #[v] W fun e w' => RowKit.Below W.heap.size W w' ∧
        ((e = .returned (.tuple #[.pointer none, .pointer none, .bool false]) ∧ (40 < l.length ∨ bigR l = true)) ∨
         ∃ ps pr L, e = .returned (.tuple #[psP ps, rsP pr, .bool true]) ∧ l.length ≤ 40 ∧ bigR l = false ∧ TwoS W.heap.size w' ps pr L)) := fun W hb => filled_call l v W (HV.out W hb) (HRw.out W hb) (hE.below hb) (hT.below hb)
  have CL : Hid (∀ W, RowKit.Below w.heap.size w W → Calls Tryz.prog 22 #[v] W fun e w' => e = .returned (.bool (bigR l)) ∧ RowKit.Below W.heap.size W w') := fun W hb => long_call l v W (HV.out W hb) (HRw.out W hb)
  have HA := Lib.hid (show ∀ W, RowKit.Below w.heap.size w W → Era W.heap.size W A from fun W hb => Era.of (hE.below hb) (hT.below hb) (Nat.le_refl _))
  have HE := Lib.hid hE
  obtain ⟨pv, cv, rfl, hcv, hcm, _⟩ := hl
  have hcv2 : l.length ≤ 9223372036854775807 := by unfold maxLen at hcm; omega
  clear hE hT hr bl HRw HV hcm
  go_enter Tryz.func5, Tryz.ntmps5
  go_wp2_with fail
  generalize hW : (w.alloc (qB a b)).alloc (qB c d) = W0 at *
  clear hW
  refine C0.out.mono ?_
  rintro e w1 ⟨rfl, hb1⟩
  have B1 := Lib.hid (Bt BL.out hb1)
  have Y0 := Lib.hid (blk_below X0.out hb1)
  obtain ⟨q0, r0, _, _⟩ := two_cells (Y0.out)
  have hq0 := cell_lt q0
  have Y1 := Lib.hid (blk_below X1.out hb1)
  obtain ⟨q1, r1, _, _⟩ := two_cells (Y1.out)
  have hq1 := cell_lt q1
  clear hb1 C0
  go_wp2_with fail
  refine (CF.out w1 B1.out).mono ?_
  rintro e w2 ⟨hb2, hc⟩
  have B2 := Lib.hid (Bt B1.out hb2)
  have Z0 := Lib.hid (blk_below Y0.out hb2)
  obtain ⟨q0, r0, _, _⟩ := two_cells (Z0.out)
  have hq0 := cell_lt q0
  have Z1 := Lib.hid (blk_below Y1.out hb2)
  obtain ⟨q1, r1, _, _⟩ := two_cells (Z1.out)
  have hq1 := cell_lt q1
  clear CF
  rcases hc with ⟨rfl, hbig⟩ | ⟨ps, pr, L, rfl, hl40, hnb, hTW⟩
  · by_cases h40 : 40 < l.length
    · have h40' : (l.length : Int) > 40 := by omega
      clear hbig hb2
      go_wp2
      go_ret
      exact ⟨rfl, B2.out⟩
    · have h40' : ¬ (l.length : Int) > 40 := by omega
      have CL2 := Lib.hid (CL.out w2 B2.out)
      rw [hbig.resolve_left h40] at CL2
      clear hbig hb2
      go_wp2_with fail
      refine CL2.out.mono ?_
      rintro e w3 ⟨rfl, hb3⟩
      have B3 := Lib.hid (Bt B2.out hb3)
      clear hb3 CL2
      go_wp2
      go_ret
      exact ⟨rfl, B3.out⟩
  · obtain ⟨N, M, hS, hRS, hMN⟩ := hTW
    have S2 := Lib.hid hS
    have R2 := Lib.hid hRS
    have HG := Lib.hid hS.good
    have A2 := Lib.hid ((HA.out w1 B1.out).below hb2)
    clear hS hRS hMN hb2 hnb CL
    have CB := Lib.hid (qboth c d a b hc hd ha hb w2)
    have HX := Lib.hid (fun m => fitN_both m c d a b)
    have HANS := Lib.hid (fun k (hk : k < L.length) => ansE_step hk (c ||| a) (d ||| b))
    have HTK := Lib.hid (show ∀ n, (ansE (L.take n) (c ||| a) (d ||| b)).length ≤ n from fun n => Nat.le_trans (len_ans _ _ _) (by simp; omega))
    have hx : c ||| a < 18446744073709551616 := Nat.or_lt_two_pow (n := 64) hc ha
    have hy : d ||| b < 18446744073709551616 := Nat.or_lt_two_pow (n := 64) hd hb
    generalize c ||| a = x at *
    generalize d ||| b = y at *
    have h128 := HG.out.len
    have HRT := Lib.hid (show ∀ k, k < L.length → RightV L[k]!.2 from fun k hk => HG.out.right _ (by rw [getElem!_pos L k hk]; exact List.getElem_mem _))
    go_wp2_with fail
    refine CB.out.mono ?_
    rintro e w3 ⟨rfl, hb3⟩
    have bA := Ba (Below.refl _ w3) (qB x y)
    have B4 := Lib.hid (Bt B2.out (Bt hb3 bA))
    have Q4 := Lib.hid (heap_alloc_new w3 (qB x y))
    have P4 := Lib.hid (blk_below Z0.out (Bt hb3 bA))
    have P5 := Lib.hid (blk_below Z1.out (Bt hb3 bA))
    have S4 := Lib.hid (S2.out.below (Bt hb3 bA))
    have A4 := Lib.hid (A2.out.below (Bt hb3 bA))
    have CE : Hid (Calls Tryz.prog 26 #[.agg #[.int .u64 0, .int .u64 0], psP ps] (w3.alloc (qB x y)) fun e w' => ∃ v, e = .returned v ∧ LsE w' TrueN v L ∧ RowKit.Below (w3.alloc (qB x y)).heap.size (w3.alloc (qB x y)) w') := by
      have := qentities S4.out A4.out 0 0 (by decide) (by decide)
      rwa [ans_all] at this
    obtain ⟨z, hz⟩ : ∃ z, z = w3.heap.size := ⟨_, rfl⟩
    obtain ⟨W4, hW4⟩ : ∃ W4, W4 = w3.alloc (qB x y) := ⟨_, rfl⟩
    rw [← hW4] at CE Q4 P4 P5 S4 A4 B4
    clear CB Z0 Z1 q0 r0 q1 r1 hq0 hq1 hb3 bA S2 A2 B2
    go_wp2_with fail
    rw [← hW4]
    clear hW4
    refine CE.out.mono ?_
    rintro e w5 ⟨v5, rfl, hls, hb5⟩
    obtain ⟨p5, c5, rfl, hc1, hc2⟩ := hls.form
    have HL5 := Lib.hid hls
    have B5 := Lib.hid (Bt B4.out hb5)
    have Q5 := Lib.hid (blk_below Q4.out hb5)
    have U5 := Lib.hid (blk_below P4.out hb5)
    have V5 := Lib.hid (blk_below P5.out hb5)
    have S5 := Lib.hid (S4.out.below hb5)
    have A5 := Lib.hid (A4.out.below hb5)
    clear hls hb5 CE Q4 P4 P5 S4 A4 B4 hc2
    rw [← hz] at Q5
    rw [← hz]
    clear hz
    have FP : Hid (∀ W l v, RowKit.Below w.heap.size w W → Sl encV W v l → RightV l → Calls Tryz.prog 31 #[qV a b, v] W fun e w' => e = .returned (.bool (fitN (maskV l) a b)) ∧ RowKit.Below W.heap.size W w') := fun W l v h1 h2 h3 => qfits a b ha hb l v W (A 4) h2 h3 (HE.out.below h1).e7.er.kind (right_len h3)
    have FQ : Hid (∀ W l v, RowKit.Below w.heap.size w W → Sl encV W v l → RightV l → Calls Tryz.prog 31 #[qV c d, v] W fun e w' => e = .returned (.bool (fitN (maskV l) c d)) ∧ RowKit.Below W.heap.size W w') := fun W l v h1 h2 h3 => qfits c d hc hd l v W (A 4) h2 h3 (HE.out.below h1).e7.er.kind (right_len h3)
    have FB : Hid (∀ W l v, RowKit.Below w.heap.size w W → Sl encV W v l → RightV l → Calls Tryz.prog 31 #[qV x y, v] W fun e w' => e = .returned (.bool (fitN (maskV l) x y)) ∧ RowKit.Below W.heap.size W w') := fun W l v h1 h2 h3 => qfits x y hx hy l v W (A 4) h2 h3 (HE.out.below h1).e7.er.kind (right_len h3)
    have HXY := Lib.hid (And.intro hx hy)
    clear ha hb hc hd hx hy
    go_wp2
    go_loopw [11, 39] (fun s11 s39 wr => ∃ (k n : Nat), s39 = .int .i64 k ∧ s11 = .int .i64 n ∧ k ≤ L.length ∧ n ≤ k ∧ Hid (n = (ansE (L.take k) x y).length) ∧ Hid (RowKit.Below w5.heap.size w5 wr)) (fun _ i _ => L.length - (intOf i).toNat)
    case atStart => exact ⟨0, 0, rfl, rfl, Nat.zero_le _, Nat.le_refl _, Lib.hid rfl, Lib.hid (Below.refl _ _)⟩
    case round =>
      obtain ⟨k, n, rfl, rfl, hk, hnk, HN, HB⟩ := hrel
      by_cases hkn : k < L.length
      · have hkz : (k : Int) < (L.length : Int) := by omega
        have hrt := HRT.out k hkn
        have HST := Lib.hid (HANS.out k hkn)
        obtain ⟨g, o, sp, cc, rfl, hg, _, d1, d2, d3, hsl, hq1, hq2⟩ := HL5.out.at hkn
        replace d1 := Bc HB.out hg d1
        replace d2 := Bc HB.out hg d2
        replace d3 := Bc HB.out hg d3
        have hgr : g < wr.heap.size := Nat.lt_of_lt_of_le hg HB.out.size
        generalize L[k]! = yy at *
        obtain ⟨⟨y1, y2⟩, yl⟩ := yy
        dsimp only at d1 d2 d3 hsl hrt HST
        have bE := Ba (Below.refl _ wr) (eB y1 y2 sp yl.length cc)
        have E1 := Lib.hid (heap_alloc_new wr (eB y1 y2 sp yl.length cc))
        have BE := Lib.hid (Bt HB.out bE)
        have F1 := Lib.hid (FP.out (wr.alloc (eB y1 y2 sp yl.length cc)) yl _ (Bt B5.out BE.out) (hsl.sl.below BE.out) hrt)
        have F2 : Hid (∀ W, RowKit.Below w5.heap.size w5 W → Calls Tryz.prog 31 #[qV c d, .slice sp yl.length cc] W fun e w' => e = .returned (.bool (fitN (maskV yl) c d)) ∧ RowKit.Below W.heap.size W w') := fun W h => FQ.out W yl _ (Bt B5.out h) (hsl.sl.below h) hrt
        have F3 : Hid (∀ W, RowKit.Below w5.heap.size w5 W → Calls Tryz.prog 31 #[qV x y, .slice sp yl.length cc] W fun e w' => e = .returned (.bool (fitN (maskV yl) c d && fitN (maskV yl) a b)) ∧ RowKit.Below W.heap.size W w') := fun W h => by
          have := FB.out W yl _ (Bt B5.out h) (hsl.sl.below h) hrt
          rwa [HX.out] at this
        rw [HX.out] at HST
        obtain ⟨⟨e0, e1, e2⟩, _, _, _⟩ := three_cells E1.out
        have hel := cell_lt e0
        obtain ⟨u0, u1, _, _⟩ := two_cells (blk_below U5.out BE.out)
        have hul := cell_lt u0
        obtain ⟨P, hP⟩ : ∃ P, P = fitN (maskV yl) a b := ⟨_, rfl⟩
        obtain ⟨Q, hQ⟩ : ∃ Q, Q = fitN (maskV yl) c d := ⟨_, rfl⟩
        rw [← hP] at F1 F3 HST
        rw [← hQ] at F2 F3 HST
        have hn9 : ((n : Int) + 1) ≤ 9223372036854775807 := by omega
        clear hP hQ hsl hrt bE
        cases P with
        | true =>
          go_wp2_with fail
          refine F1.out.mono ?_
          rintro e w6 ⟨rfl, hb6⟩
          have B6 := Lib.hid (Bt BE.out hb6)
          have E6 := Lib.hid (blk_below E1.out hb6)
          clear hb6 F1 d1 d2 d3 hgr e0 e1 e2 hel u0 u1 hul
          obtain ⟨⟨e0, e1, e2⟩, _, _, _⟩ := three_cells E6.out
          have hel := cell_lt e0
          obtain ⟨u0, u1, _, _⟩ := two_cells (blk_below V5.out B6.out)
          have hul := cell_lt u0
          cases Q with
          | true =>
            go_wp2_with fail
            refine (F2.out _ B6.out).mono ?_
            rintro e w7 ⟨rfl, hb7⟩
            have B7 := Lib.hid (Bt B6.out hb7)
            have E7 := Lib.hid (blk_below E6.out hb7)
            clear hb7 F2 e0 e1 e2 hel u0 u1 hul
            have F9 := Lib.hid (F3.out w7 B7.out)
            rw [Bool.and_true] at F9
            have hst := HST.out
            simp only [Bool.and_true, if_true] at hst
            have HS1 := Lib.hid hst
            clear hst HST
            obtain ⟨⟨e0, e1, e2⟩, _, _, _⟩ := three_cells E7.out
            have hel := cell_lt e0
            obtain ⟨u0, u1, _, _⟩ := two_cells (blk_below Q5.out B7.out)
            have hul := cell_lt u0
            go_wp2_with fail
            refine F9.out.mono ?_
            rintro e w8 ⟨rfl, hb8⟩
            have B8 := Lib.hid (Bt B7.out hb8)
            clear hb8 F9 e0 e1 e2 hel u0 u1 hul
            go_wp2
            go_roundw
            case measure => simp [intOf]; omega
            case rel => exact ⟨k + 1, n + 1, by go_num, by go_num, by omega, by omega, Lib.hid (by rw [HS1.out, List.length_append, ← HN.out]; rfl), B8⟩
          | false =>
            go_wp2_with fail
            refine (F2.out _ B6.out).mono ?_
            rintro e w7 ⟨rfl, hb7⟩
            have B7 := Lib.hid (Bt B6.out hb7)
            have E7 := Lib.hid (blk_below E6.out hb7)
            clear hb7 F2 e0 e1 e2 hel u0 u1 hul
            have F9 := Lib.hid (F3.out w7 B7.out)
            rw [Bool.false_and] at F9
            have hst := HST.out
            simp only [Bool.false_and, Bool.false_eq_true, if_false] at hst
            have HS1 := Lib.hid hst
            clear hst HST
            obtain ⟨⟨e0, e1, e2⟩, _, _, _⟩ := three_cells E7.out
            have hel := cell_lt e0
            obtain ⟨u0, u1, _, _⟩ := two_cells (blk_below Q5.out B7.out)
            have hul := cell_lt u0
            go_wp2_with fail
            refine F9.out.mono ?_
            rintro e w8 ⟨rfl, hb8⟩
            have B8 := Lib.hid (Bt B7.out hb8)
            clear hb8 F9 e0 e1 e2 hel u0 u1 hul
            go_wp2
            go_roundw
            case measure => simp [intOf]; omega
            case rel => exact ⟨k + 1, n, by go_num, rfl, by omega, by omega, Lib.hid (by rw [HS1.out]; exact HN.out), B8⟩
        | false =>
          go_wp2_with fail
          refine F1.out.mono ?_
          rintro e w7 ⟨rfl, hb7⟩
          have B7 := Lib.hid (Bt BE.out hb7)
          have E7 := Lib.hid (blk_below E1.out hb7)
          clear hb7 F1 d1 d2 d3 hgr e0 e1 e2 hel u0 u1 hul
          have F9 := Lib.hid (F3.out w7 B7.out)
          rw [Bool.and_false] at F9
          have hst := HST.out
          simp only [Bool.and_false, Bool.false_eq_true, if_false] at hst
          have HS1 := Lib.hid hst
          clear hst HST
          obtain ⟨⟨e0, e1, e2⟩, _, _, _⟩ := three_cells E7.out
          have hel := cell_lt e0
          obtain ⟨u0, u1, _, _⟩ := two_cells (blk_below Q5.out B7.out)
          have hul := cell_lt u0
          go_wp2_with fail
          refine F9.out.mono ?_
          rintro e w8 ⟨rfl, hb8⟩
          have B8 := Lib.hid (Bt B7.out hb8)
          clear hb8 F9 e0 e1 e2 hel u0 u1 hul
          go_wp2
          go_roundw
          case measure => simp [intOf]; omega
          case rel => exact ⟨k + 1, n, by go_num, rfl, by omega, by omega, Lib.hid (by rw [HS1.out]; exact HN.out), B8⟩
      · have hkk : k = L.length := by omega
        have hn9 := HN.out
        rw [hkk, List.take_length] at hn9
        have CC := Lib.hid (qcount (S5.out.below HB.out) x y HXY.out.1 HXY.out.2)
        rw [← hn9] at CC
        obtain ⟨u0, u1, _, _⟩ := two_cells (blk_below Q5.out HB.out)
        have hul := cell_lt u0
        clear hn9 hkk
        go_wp2_with fail
        refine CC.out.mono ?_
        rintro e w9 ⟨rfl, hb9⟩
        have B9 := Lib.hid (Bt B5.out (Bt HB.out hb9))
        clear hb9
        go_wp2
        go_ret
        exact ⟨by simp, B9.out⟩
end
end Go.Proofs.YtaehendpdfpibaaGreatDoor

/-
  Whatever two queries and rows it is given, QueryBoth answers true and leaves its arguments as they were. Conditions: the errors' variables that it names read as the program's text lays them (the card ties them to that text).
-/
namespace Go.Proofs.YtaehendpdfpibaaGreatDoor
set_option linter.unusedSimpArgs false
set_option linter.unusedVariables false
open Go.ChangeShapes Go.WideShapes Go.ChangeAt Go.RowKit Go.Joins

set_option maxRecDepth 100000 in
theorem queryBoth_lifted (os : Os) (started : os.Started) (H : Type) (enc : TypeId × Value → H) :
    ReturnsInHanded {} Tryz.checked os 5 .any (fun w args => (Rows.queryBothSpec.pre enc Tryz.prog Tryz.f5 [] false w args ∧ laidMetH Tryz.prog Rows.queryBothRow.laid w) ∧ sizedMet enc Tryz.prog Tryz.f5 (OpenSpec.ofChange Rows.queryBothSpec) false w args)
      (Rows.queryBothSpec.post enc Tryz.prog Tryz.f5 false true false false) := by
  refine returnsInHanded_of_change_and (C := Tryz.checked) (X := fun w _ => laidMetH Tryz.prog Rows.queryBothRow.laid w) (fun _ _ _ hh h => h.of_heap hh) own started (by kernel_rfl) Tryz.func5
    (ChangeSpec.witness_shaped (enc := enc) (C := Tryz.checked) (os := os) (X := fun w _ => laidMetH Tryz.prog Rows.queryBothRow.laid w) false (World.doorLaid Tryz.prog 247 os) #[.agg #[.int .u64 0, .int .u64 0], .agg #[.int .u64 0, .int .u64 0], .slice none 0 0] 8 rfl (World.shaped_of_RefB (by kernel_rfl) (by kernel_rfl)) (by kernel_rfl) (by kernel_rfl) (by kernel_rfl) (laidMetH_of_parts3 (fuel := 8) (laidMet_of_run' 8 (by kernel_rfl) (by kernel_rfl)) (by kernel_rfl) (by kernel_rfl))) ?_
  intro W base args ds gs before hval0 hW _ _ hL _
  have hval : ∀ (j : Nat) t v, Tryz.f5.params[j]? = some t → args[j]? = some v → Value.okWide Tryz.prog W .any base t v := hval0
  have hW' := hW
  obtain ⟨p, q, hA0, hV, rfl, hfz, hnd⟩ := hW
  have hA : DataW.TrodAll enc Tryz.prog W 0 (fun _ => true) true Tryz.f5.params.toList args.toList ds p := hA0
  rw [Tryz.params5] at hA hval
  obtain ⟨v0, vs0, d0, ds0, p0, q0, hargs, rfl, rfl, h0, r0⟩ := trodAll_cons hA
  obtain ⟨v1, vs1, d1, ds1, p1, q1, rfl, rfl, rfl, h1, r1⟩ := trodAll_cons r0
  obtain ⟨v2, vs2, d2, ds2, p2, q2, rfl, rfl, rfl, h2, r2⟩ := trodAll_cons r1
  obtain ⟨rfl, rfl, rfl⟩ := trodAll_nil r2
  obtain rfl : args = #[v0, v1, v2] := by cases args; simp_all
  obtain ⟨x0, y0, rfl, w0, u0⟩ := open_query (hval 0 62 v0 rfl rfl) h0
  obtain ⟨x1, y1, rfl, w1, u1⟩ := open_query (hval 1 62 v1 rfl rfl) h1
  obtain ⟨l2, hl2, hr2⟩ := open_rows (hval 2 53 v2 rfl rfl) h2
  clear hA0 hval0
  have hL' : laidMet Tryz.prog Rows.queryBothRow.laid W := by
    have h := hL
    rw [MakeChecks.laidMetH_plain _ _ _ (by kernel_rfl)] at h
    exact h
  have hT := tab_of hL'
  obtain ⟨A, hE⟩ := er8_list hL' (.tail _ (.head _)) (.tail _ (.tail _ (.head _))) (.tail _ (.tail _ (.tail _ (.head _)))) (.tail _ (.tail _ (.tail _ (.tail _ (.head _))))) (.tail _ (.tail _ (.tail _ (.tail _ (.tail _ (.head _)))))) (.tail _ (.tail _ (.tail _ (.tail _ (.tail _ (.tail _ (.head _)))))))
  refine (queryBoth_walk x0 y0 x1 y1 w0 u0 w1 u1 l2 v2 W hl2 hr2 hE hT).mono fun e W' ⟨he, hb⟩ => ?_
  subst he
  exact ⟨_, rfl, law_post laidOut (by kernel_rfl) rfl (by kernel_rfl) Tryz.underlying4 (fun ds hd => by match ds, hd with | [_, _, _], _ => rfl) hW' hb⟩

theorem queryBoth_row : Rows.QueryBothSaid :=
  OpenClaim.holds_of_wide 5 Tryz.f5 rfl rfl rfl rfl rfl rfl rfl ⟨rfl, rfl, rfl, rfl, rfl⟩ rfl rfl rfl rfl rfl (by kernel_rfl) Tryz.func5 (by kernel_rfl)
    (of_decide_eq_true (by kernel_rfl)) (by unfold Func.isWrapper; first | (rw [if_pos (by decide +kernel)]; kernel_rfl) | (rw [if_neg (by decide +kernel)]; exact ⟨rfl, rfl⟩))
    (fun os started H enc _ => queryBoth_lifted os started H enc)

theorem queryBoth_holds : Rows.QueryBothCardSaid :=
  Claim7.holds_tied_plain_at .later [] Rows.queryBothCard.laidKinds true Rows.queryBothCard.stood.harness true
    queryBoth_row (fun _ h => by cases h) (by kernel_rfl) (fun _ h => by cases h) queryBoth_row_tie rfl ⟨rfl, rfl⟩ (by kernel_rfl) rfl
    (fun f fn hf hfn => by
      obtain rfl : f = 5 := Option.some.inj ((show Tryz.prog.funcNamed "paddock/paddocklaw09.QueryBoth" = some 5 by kernel_rfl).symm.trans hf) |>.symm
      obtain rfl : fn = Tryz.f5 := (Option.some.inj (Tryz.func5.symm.trans hfn)).symm
      exact ⟨by kernel_rfl, fun j t ht => by
        rw [Tryz.params5] at ht
        have hm : t ∈ [62, 53] := by
          have := Array.mem_of_getElem? ht
          simp at this ⊢
          omega
        have hall : ([62, 53].all fun u => !Tryz.prog.wantsStandIn u) = true := by kernel_rfl
        exact (show Tryz.prog.wantsStandIn t = false by simpa using List.all_eq_true.1 hall t hm)⟩)
    (by kernel_rfl)
#print axioms queryBoth_holds
end Go.Proofs.YtaehendpdfpibaaGreatDoor
