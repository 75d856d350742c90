/-
  HandlesBack, walked.
-/
import Derived.Test.YthodmicoejnfaaaDoorApr
import Derived.Test.YthodmicoejnfaaaDoorDel
import Derived.Test.YthodmicoejnfaaaDoorTwo
import Derived.Test.YthodmicoejnfaaaDoorLim
namespace Go.Proofs.YthodmicoejnfaaaDoor
set_option linter.unusedSimpArgs false
set_option linter.unusedVariables false
open Go.RowKit Go.Sort Go.Lib Go.Shelf

theorem zero_of {n : Nat} (h : ¬ 0 < n) : n = 0 := by omega
theorem erase_split (l : List Hd) (m : Nat) : l.take m ++ l.drop (m + 1) = l.eraseIdx m := (List.eraseIdx_eq_take_drop_succ l m).symm

set_option maxHeartbeats 1000000 in
set_option maxRecDepth 100000 in
theorem back_walk (l : List Opr) (v : Value) (more : Int) (w : World) (hv : Sl encO w v l) (A : Nat → Addr) (hE : Errs w A) : Calls Tryd.prog 5 #[v, .int .i64 more] w fun e w' => e = .returned (.bool true) ∧ RowKit.Below w.heap.size w w' := by
  obtain ⟨p0, c0, rfl, v1, v2, v3⟩ := hv
  unfold maxLen at v2
  have HV := Lib.hid v3
  have HE := Lib.hid hE
  clear v3 hE
  by_cases hbig : l.length ≤ 80
  · have hb : ¬ (80 : Int) < (l.length : Int) := by omega
    go_enter Tryd.func5, Tryd.ntmps5
    go_wp2_with fail
    refine (alive_any w).mono ?_
    rintro e w1 ⟨rfl, hb1⟩
    have B1 := Lib.hid hb1
    clear hb1
    go_wp2_with fail
    refine (newX w.heap.size NoX w1 B1.out.size (noX w1)).mono ?_
    rintro e w2 ⟨pa, rfl, hp2, hb2⟩
    have B2 := Lib.hid (B1.out.trans (hb2.mono B1.out.size))
    have P2 := Lib.hid hp2
    clear hp2 hb2
    go_wp2_with fail
    go_loopw [6, 29] (fun v i wr => ∃ (k : Nat) (S : List Slt) (Fr : List Int) (L : List Hd), k ≤ l.length ∧ i = .int .i64 k ∧ PoolX 67 w.heap.size NoX wr pa S Fr ∧ Right S Fr ∧ wr.ownsRow w.heap.size 40 2 v L.length (flat encH L) ∧ L.length ≤ k ∧ RowKit.Below w.heap.size w wr) (fun _ i _ => l.length - (intOf i).toNat)
    case atStart => exact ⟨0, [], [], [], Nat.zero_le _, rfl, P2.out.below (Ba (Below.refl _ _) _), right_new, World.ownsRow_lit w2 #[] 0 B2.out.size (Nat.zero_le _) rfl, Nat.le_refl _, Ba B2.out _⟩
    case round =>
      obtain ⟨k, S, Fr, L, hk, rfl, hp, r, hr, hLk, hb⟩ := hrel
      have HP := Lib.hid hp
      have HRt := Lib.hid r
      have HR := Lib.hid hr
      have HB := Lib.hid hb
      clear hp r hr hb
      by_cases hkn : k < l.length
      · obtain ⟨g, o, rfl, hg, cO⟩ := HV.out (by omega)
        obtain ⟨d1, d2, d3, d4⟩ := atO cO hkn
        replace d1 := Bc HB.out hg d1
        replace d2 := Bc HB.out hg d2
        replace d3 := Bc HB.out hg d3
        replace d4 := Bc HB.out hg d4
        clear cO
        generalize l[k]!.1 = kd at *
        generalize l[k]!.2.1 = n at *
        generalize l[k]!.2.2.1 = hi at *
        generalize l[k]!.2.2.2 = hgn at *
        obtain ⟨pl, cl, rfl, q1, q2, q3⟩ := row_val HR.out
        unfold maxLen at q2
        have HO := Lib.hid (Ba (Below.refl _ wr) (.cells #[.int .i64 kd, .int .i64 n, .int .i64 hi, .int .i64 hgn] 42))
        obtain ⟨wo, hwo⟩ : ∃ wo, wo = wr.alloc (.cells #[.int .i64 kd, .int .i64 n, .int .i64 hi, .int .i64 hgn] 42) := ⟨_, rfl⟩
        have Po := Lib.hid (HP.out.below HO.out)
        have Ro := Lib.hid (row_below HR.out HO.out)
        have Bo := Lib.hid (HB.out.trans (HO.out.mono HB.out.size))
        rw [← hwo] at Po Ro Bo
        have HWo := Lib.hid hwo
        clear hwo
        by_cases hfree : kd = 2 ∧ 0 < L.length
        · obtain ⟨rfl, hlen⟩ := hfree
          obtain ⟨g2, rfl, hg2, _⟩ := q3 hlen
          obtain ⟨m, hm, he⟩ := idx_any n L.length hlen (by omega)
          obtain ⟨y0, y1⟩ := row_cellsH Ro.out m hm
          generalize L[m]! = x at y0 y1
          obtain ⟨h0, h1⟩ := x
          dsimp only at y0 y1
          have HF := Lib.hid (freeX_any Po.out HRt.out h0 h1 _ _ (errNone_at (HE.out.below Bo.out)))
          rw [HWo.out] at y0 y1
          clear q3
          have HLL := Lib.hid (show ∀ q : Nat, q ≤ L.length → (L.take q).length = q from fun q hq => by simp; omega)
          go_wp2_with fail
          rw [← HWo.out]
          refine HF.out.mono ?_
          rintro e w3 ⟨u, S3, F3, rfl, hp3, r3, hk3⟩
          have P3 := Lib.hid hp3
          have R3 := Lib.hid r3
          have O3 := Lib.hid (hk3.row Ro.out (by decide))
          have B3 := Lib.hid (Bo.out.trans (hk3.below Bo.out.size))
          clear hp3 hk3 r3 y0 y1
          go_wp2_with fail
          clear he
          have b1 : m ≤ L.length := by omega
          have b2 : m ≤ cl := by omega
          have b3 : m + 1 ≤ L.length := by omega
          have b4 : m + 1 ≤ cl := by omega
          have D3 := Lib.hid (Bd (Below.refl _ w3))
          have FR := Lib.hid (rowH_front (row_below O3.out D3.out) rfl m b1)
          have TL := Lib.hid (rowH_tail (row_below O3.out D3.out) rfl (m + 1) b3)
          have LE := Lib.hid (show (L.take m).length + (L.drop (m + 1)).length ≤ 1000000 by simp; omega)
          have LK := Lib.hid (show (L.eraseIdx m).length ≤ k by rw [List.length_eraseIdx]; split <;> omega)
          have Z3 := Lib.hid (show w.heap.size ≤ w3.drew.heap.size from B3.out.size)
          have hz0 : (0 : Int) ≤ (m : Int) + 1 := by omega
          have hz1 : (m : Int) + 1 ≤ (L.length : Int) := by omega
          have hwr : IntKind.i64.wrap ((m : Int) + 1) = (m : Int) + 1 := IntWalk.i64_in _ (by omega)
          have hwr2 : ((m : Int) + 1).toNat = m + 1 := by omega
          go_region_held3 (fun _ => True) (trivial) ((refine step_app2 apH rfl (.tmp 57) (.tmp 61) rfl w.heap.size (by rfl) (by rfl) FR.out rfl TL.out LE.out Z3.out ?_; intro v5 w5 hown5 hgrow5 hat5 _))
          all_goals
            have P5 := Lib.hid ((P3.out.below D3.out).grown FR.out (by decide) hgrow5)
            have B5 := Lib.hid (grownB (B3.out.trans (D3.out.mono B3.out.size)) FR.out hgrow5)
            rw [erase_split] at hown5
            have O5 := Lib.hid hown5
            clear hown5 hgrow5 hat5 hwr hwr2
            go_wp2
            go_roundw
            case measure => simp [intOf]; omega
            case rel => exact ⟨k + 1, S3, F3, L.eraseIdx m, by omega, by go_num, P5.out, R3.out, O5.out, Nat.le_succ_of_le LK.out, B5.out⟩
        · clear q3
          cases ht : takeP S Fr with
          | none =>
            have HT := Lib.hid (takeX_none Po.out ht _ _ (errFull_at (HE.out.below Bo.out)))
            clear ht
            by_cases hk2 : kd = 2
            · have hz : ¬ 0 < L.length := fun h => hfree ⟨hk2, h⟩
              have hz2 : ¬ (0 : Int) < (L.length : Int) := by omega
              subst hk2
              clear hfree
              go_wp2_with fail
              rw [← HWo.out]
              refine HT.out.mono ?_
              rintro e w3 ⟨rfl, hb3⟩
              have D3 := Lib.hid (Ba hb3 (.cells #[.int .i64 0, .int .i64 0] 40))
              have P3 := Lib.hid (Po.out.below D3.out)
              have R3 := Lib.hid (row_below Ro.out D3.out)
              have B3 := Lib.hid (Bo.out.trans (D3.out.mono Bo.out.size))
              clear hb3
              go_wp2
              go_roundw
              case measure => simp [intOf]; omega
              case rel => exact ⟨k + 1, S, Fr, _, by omega, by go_num, P3.out, HRt.out, R3.out, by first | omega | (simp; done) | (simp; omega), B3.out⟩
            · have hz : (kd == 2) = false := by simpa using hk2
              clear hfree hk2
              go_wp2_with fail
              rw [← HWo.out]
              refine HT.out.mono ?_
              rintro e w3 ⟨rfl, hb3⟩
              have D3 := Lib.hid (Ba hb3 (.cells #[.int .i64 0, .int .i64 0] 40))
              have P3 := Lib.hid (Po.out.below D3.out)
              have R3 := Lib.hid (row_below Ro.out D3.out)
              have B3 := Lib.hid (Bo.out.trans (D3.out.mono Bo.out.size))
              clear hb3
              go_wp2
              go_roundw
              case measure => simp [intOf]; omega
              case rel => exact ⟨k + 1, S, Fr, _, by omega, by go_num, P3.out, HRt.out, R3.out, by first | omega | (simp; done) | (simp; omega), B3.out⟩
          | some q =>
            obtain ⟨⟨h0, h1⟩, S', Fr'⟩ := q
            have HT := Lib.hid (takeX Po.out HRt.out ht)
            have RT := Lib.hid (right_take HRt.out ht)
            clear ht
            by_cases hk2 : kd = 2
            · have hz : ¬ 0 < L.length := fun h => hfree ⟨hk2, h⟩
              have hz2 : ¬ (0 : Int) < (L.length : Int) := by omega
              subst hk2
              clear hfree
              go_wp2_with fail
              rw [← HWo.out]
              refine HT.out.mono ?_
              rintro e w3 ⟨rfl, hp3, hk3⟩
              have R3 := Lib.hid (hk3.row Ro.out (by decide))
              have B3 := Lib.hid (Bo.out.trans (hk3.below Bo.out.size))
              have D4 := Lib.hid (Ba (Ba (Below.refl _ w3) (.cells #[.int .i64 h0, .int .i64 h1] 40)) (.cells #[.int .i64 h0, .int .i64 h1] 40))
              have P4 := Lib.hid (hp3.below D4.out)
              have R4 := Lib.hid (row_below R3.out D4.out)
              have B4 := Lib.hid (B3.out.trans (D4.out.mono B3.out.size))
              have S4 := Lib.hid (sl_lit (enc := encH) (w := w3.alloc (.cells #[.int .i64 h0, .int .i64 h1] 40)) (cs := #[.int .i64 h0, .int .i64 h1]) (t := 40) (b := w3.heap.size + 1) [(h0, h1)] (by simp) rfl (by unfold maxLen; simp))
              have Z4 := Lib.hid (show w.heap.size ≤ ((w3.alloc (.cells #[.int .i64 h0, .int .i64 h1] 40)).alloc (.cells #[.int .i64 h0, .int .i64 h1] 40)).heap.size from B4.out.size)
              clear hp3 hk3
              go_wp2_with (at_builtin; refine wpl_app2 apH rfl _ _ rfl w.heap.size (by rfl) (by rfl) R4.out rfl S4.out (by simp; omega) Z4.out ?_; intro v5 w5 hown5 hgrow5 hat5 _; have P5 := Lib.hid (P4.out.grown R4.out (by decide) hgrow5); have B5 := Lib.hid (grownB B4.out R4.out hgrow5); have O5 := Lib.hid hown5; clear hown5 hgrow5 hat5)
              go_roundw
              case measure => simp [intOf]; omega
              case rel => exact ⟨k + 1, S', Fr', _, by omega, by go_num, P5.out, RT.out, O5.out, by simp; omega, B5.out⟩
            · have hz : (kd == 2) = false := by simpa using hk2
              clear hfree hk2
              go_wp2_with fail
              rw [← HWo.out]
              refine HT.out.mono ?_
              rintro e w3 ⟨rfl, hp3, hk3⟩
              have R3 := Lib.hid (hk3.row Ro.out (by decide))
              have B3 := Lib.hid (Bo.out.trans (hk3.below Bo.out.size))
              have D4 := Lib.hid (Ba (Ba (Below.refl _ w3) (.cells #[.int .i64 h0, .int .i64 h1] 40)) (.cells #[.int .i64 h0, .int .i64 h1] 40))
              have P4 := Lib.hid (hp3.below D4.out)
              have R4 := Lib.hid (row_below R3.out D4.out)
              have B4 := Lib.hid (B3.out.trans (D4.out.mono B3.out.size))
              have S4 := Lib.hid (sl_lit (enc := encH) (w := w3.alloc (.cells #[.int .i64 h0, .int .i64 h1] 40)) (cs := #[.int .i64 h0, .int .i64 h1]) (t := 40) (b := w3.heap.size + 1) [(h0, h1)] (by simp) rfl (by unfold maxLen; simp))
              have Z4 := Lib.hid (show w.heap.size ≤ ((w3.alloc (.cells #[.int .i64 h0, .int .i64 h1] 40)).alloc (.cells #[.int .i64 h0, .int .i64 h1] 40)).heap.size from B4.out.size)
              clear hp3 hk3
              go_wp2_with (at_builtin; refine wpl_app2 apH rfl _ _ rfl w.heap.size (by rfl) (by rfl) R4.out rfl S4.out (by simp; omega) Z4.out ?_; intro v5 w5 hown5 hgrow5 hat5 _; have P5 := Lib.hid (P4.out.grown R4.out (by decide) hgrow5); have B5 := Lib.hid (grownB B4.out R4.out hgrow5); have O5 := Lib.hid hown5; clear hown5 hgrow5 hat5)
              go_roundw
              case measure => simp [intOf]; omega
              case rel => exact ⟨k + 1, S', Fr', _, by omega, by go_num, P5.out, RT.out, O5.out, by simp; omega, B5.out⟩
      · have hsl := HRt.out.len
        have hfl := HRt.out.freeLen
        have HS5 := Lib.hid (slots_call HP.out.at.choose_spec (by omega) (by omega))
        go_wp2_with fail
        refine HS5.out.mono ?_
        rintro e w4 ⟨x1, x2, rfl, ho1, ho2, hb4⟩
        have S1 := Lib.hid (row_sl lenS ho1 rfl)
        have S2 := Lib.hid (row_sl lenI ho2 rfl)
        obtain ⟨q1, k1, rfl, _, _, _⟩ := row_val ho1
        obtain ⟨q2, k2, rfl, _, _, _⟩ := row_val ho2
        have P4 := Lib.hid (HP.out.below hb4)
        have B4 := Lib.hid (HB.out.trans (hb4.mono HB.out.size))
        clear ho1 ho2 hb4
        go_wp2_with fail
        refine (from_yes _ _ S1.out S2.out HRt.out).mono ?_
        rintro e w5 ⟨pb, rfl, hp5, hb5⟩
        have T5 := Lib.hid (Two.of P4.out hp5 hb5)
        have B5 := Lib.hid (B4.out.trans (hb5.mono B4.out.size))
        have R5 := Lib.hid HRt.out
        clear hp5 hb5 S1 S2 P4
        have eq1 := neH_run
        have gd1 := gdH_run
        go_wp2_with fail
        obtain ⟨m, hm, he⟩ := idx_any more 140 (by omega) (by omega)
        rw [show ((140 : Nat) : Int) = 140 from rfl] at he
        simp only [he]
        clear he
        go_loopw [96] (fun i wr => ∃ (k : Nat) (S : List Slt) (Fr : List Int), k ≤ m ∧ i = .int .i64 k ∧ Two 67 67 w.heap.size wr pa S Fr pb S Fr ∧ Right S Fr ∧ RowKit.Below w.heap.size w wr) (fun i _ => m - (intOf i).toNat)
        case atStart => exact ⟨0, S, Fr, Nat.zero_le _, rfl, T5.out, R5.out, B5.out⟩
        case round =>
          clear HRt HP HS5 T5 R5 HR
          clear hsl hfl
          obtain ⟨k, S, Fr, hk, rfl, hq, r, hb⟩ := hrel
          have HQ := Lib.hid hq
          have RR := Lib.hid r
          have BR := Lib.hid hb
          clear hq r hb
          by_cases hkm : k < m
          · cases ht : takeP S Fr with
            | none =>
              have HT := Lib.hid ht
              clear ht
              go_wp2_with fail
              refine (take_none HQ.out.first.choose_spec HT.out _ _ (errFull_at (HE.out.below BR.out))).mono ?_
              rintro e w6 ⟨rfl, hb6⟩
              have D6 := Lib.hid (Ba hb6 (.cells #[.int .i64 0, .int .i64 0] 40))
              have T6 := Lib.hid (HQ.out.below D6.out)
              have B6 := Lib.hid (BR.out.trans (D6.out.mono BR.out.size))
              have X6 := Lib.hid (heap_alloc_new w6 (.cells #[.int .i64 0, .int .i64 0] 40))
              clear hb6
              go_wp2_with fail
              refine (take_none T6.out.second.choose_spec HT.out _ _ (errFull_at (HE.out.below B6.out))).mono ?_
              rintro e w7 ⟨rfl, hb7⟩
              have D7 := Lib.hid (Ba hb7 (.cells #[.int .i64 0, .int .i64 0] 40))
              have T7 := Lib.hid (T6.out.below D7.out)
              have B7 := Lib.hid (B6.out.trans (D7.out.mono B6.out.size))
              have X7 := Lib.hid (blk_below X6.out D7.out)
              clear hb7
              obtain ⟨y0, y1, _, _⟩ := two_cells X7.out
              go_wp2_with fail
              refine (num_full (HE.out.below B7.out)).mono ?_
              rintro e w8 ⟨rfl, hb8⟩
              have T8 := Lib.hid (T7.out.below hb8)
              have B8 := Lib.hid (B7.out.trans (hb8.mono B7.out.size))
              clear hb8
              go_wp2_with fail
              refine (num_full (HE.out.below B8.out)).mono ?_
              rintro e w9 ⟨rfl, hb9⟩
              have T9 := Lib.hid (T8.out.below hb9)
              have B9 := Lib.hid (B8.out.trans (hb9.mono B8.out.size))
              clear hb9
              go_wp2
              go_roundw
              case measure => simp [intOf]; omega
              case rel => exact ⟨k + 1, S, Fr, by omega, by go_num, T9.out, RR.out, B9.out⟩
            | some q =>
              obtain ⟨⟨h0, h1⟩, S', Fr'⟩ := q
              have HT := Lib.hid ht
              have RT := Lib.hid (right_take RR.out ht)
              have HT1 := Lib.hid (Two.ask1 (S1' := S') (F1' := Fr') (P := fun e => e = .returned (.tuple #[.agg #[.int .i64 h0, .int .i64 h1], .nilIface])) HQ.out (fun M hM => take_call hM RR.out ht))
              clear ht
              go_wp2_with fail
              refine (HT1.out).mono ?_
              rintro e w6 ⟨rfl, hp6, hk6⟩
              have T6 := Lib.hid (hp6.below (Ba (Below.refl _ w6) (.cells #[.int .i64 h0, .int .i64 h1] 40)))
              have B6 := Lib.hid (Ba (BR.out.trans (hk6.below BR.out.size)) (.cells #[.int .i64 h0, .int .i64 h1] 40))
              have X6 := Lib.hid (heap_alloc_new w6 (.cells #[.int .i64 h0, .int .i64 h1] 40))
              clear hp6 hk6
              go_wp2_with fail
              refine (Two.ask2 (S2' := S') (F2' := Fr') (P := fun e => e = .returned (.tuple #[.agg #[.int .i64 h0, .int .i64 h1], .nilIface])) T6.out (fun M hM => take_call hM RR.out HT.out)).mono ?_
              rintro e w7 ⟨rfl, hp7, hk7⟩
              have T7 := Lib.hid (hp7.below (Ba (Below.refl _ w7) (.cells #[.int .i64 h0, .int .i64 h1] 40)))
              have B7 := Lib.hid (Ba (B6.out.trans (hk7.below B6.out.size)) (.cells #[.int .i64 h0, .int .i64 h1] 40))
              have X7 := Lib.hid (blk_below (hk7.cells X6.out (by decide)) (Ba (Below.refl _ w7) (.cells #[.int .i64 h0, .int .i64 h1] 40)))
              clear hp7 hk7
              obtain ⟨y0, y1, _, _⟩ := two_cells X7.out
              go_wp2_with fail
              refine (num_nil _).mono ?_
              rintro e w8 ⟨rfl, hb8⟩
              have T8 := Lib.hid (T7.out.below hb8)
              have B8 := Lib.hid (B7.out.trans (hb8.mono B7.out.size))
              clear hb8
              go_wp2_with fail
              refine (num_nil _).mono ?_
              rintro e w9 ⟨rfl, hb9⟩
              have T9 := Lib.hid (T8.out.below hb9)
              have B9 := Lib.hid (B8.out.trans (hb9.mono B8.out.size))
              clear hb9
              go_wp2
              go_roundw
              case measure => simp [intOf]; omega
              case rel => exact ⟨k + 1, S', Fr', by omega, by go_num, T9.out, RT.out, B9.out⟩
          · have hsl := RR.out.len
            have C1 := Lib.hid (count_call HQ.out.second.choose_spec (by omega))
            have C2 := Lib.hid (fun W (h : RowKit.Below wr.heap.size wr W) => count_call (HQ.out.below h).first.choose_spec (by omega))
            go_wp2_with fail
            refine C1.out.mono ?_
            rintro e w6 ⟨rfl, hb6⟩
            have B6 := Lib.hid hb6
            clear hb6
            go_wp2_with fail
            refine (C2.out _ B6.out).mono ?_
            rintro e w7 ⟨rfl, hb7⟩
            have B7 := Lib.hid (BR.out.trans ((B6.out.trans (hb7.mono B6.out.size)).mono BR.out.size))
            clear hb7
            go_wp2
            go_ret
            exact ⟨ret_bool (by simp), B7.out⟩
  · have hb : (80 : Int) < (l.length : Int) := by omega
    go_enter Tryd.func5, Tryd.ntmps5
    go_wp2_with fail
    refine (alive_any w).mono ?_
    rintro e w1 ⟨rfl, hb1⟩
    go_wp2_with fail
    go_ret
    exact ⟨rfl, hb1⟩
end Go.Proofs.YthodmicoejnfaaaDoor
