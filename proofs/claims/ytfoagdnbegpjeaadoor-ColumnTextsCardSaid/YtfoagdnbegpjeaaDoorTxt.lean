/-
  ColumnTexts, walked.
-/
import Derived.Test.YtfoagdnbegpjeaaDoorAl5
import Derived.Test.YtfoagdnbegpjeaaDoorCT
import Derived.Test.YtfoagdnbegpjeaaDoorMpt
namespace Go.Proofs.YtfoagdnbegpjeaaDoor
set_option linter.unusedSimpArgs false
set_option linter.unusedVariables false
open Go.RowKit Go.Sort Go.Lib Go.Shelf Go.ChangeShapes Go.WideShapes

/-- A column of texts of the call's own. -/
abbrev ColXT (base : Nat) (w : World) (pa : Nat) (L : List ByteArray) (m : Int) : Prop := ColX encT 9 1 70 base w pa L m
/-- How often each text stands in a list. -/
def cf (L : List ByteArray) : ByteArray → Int := fun s => cnt s L

set_option maxHeartbeats 8000000 in
set_option maxRecDepth 100000 in
theorem texts_walk (ws : List ByteArray) (out : List Int) (v0 v1 : Value) (w : World) (hv : Sl encT w v0 ws) (hsz : ∀ s ∈ ws, s.size ≤ maxLen) (ho : Sl encI w v1 out) (t : TypeId) (ev : Value) (hR : w.cell? ⟨0, 0, none⟩ = some (.iface t ev)) :
    Calls Tryd.prog 4 #[v0, v1] w fun e w' => e = .returned (.bool true) ∧ RowKit.Below w.heap.size w w' := by
  have HSV := Lib.hid hv
  obtain ⟨p0, c0, rfl, a1, a2, a3⟩ := hv
  obtain ⟨p1, c1, rfl, b1, b2, b3⟩ := ho
  unfold maxLen at a2 b2
  have HV := Lib.hid a3
  have HO := Lib.hid b3
  have HR := Lib.hid hR
  have HSZ := Lib.hid hsz
  clear a3 b3 hR hsz
  by_cases hbig : ws.length ≤ 60 ∧ out.length ≤ 60
  · obtain ⟨g1, g2⟩ := hbig
    have n1 : ¬ (60 : Int) < (ws.length : Int) := by omega
    have n2 : ¬ (60 : Int) < (out.length : Int) := by omega
    go_enter Tryd.func4, Tryd.ntmps4
    go_wp2_with fail
    refine (alive_any w).mono ?_
    rintro e w1 ⟨rfl, hb1⟩
    have B1 := Lib.hid hb1
    clear hb1
    go_wp2_with fail
    go_loopw [31] (fun i wr => ∃ k : Nat, k ≤ ws.length ∧ i = .int .i64 k ∧ wr = w1) (fun i _ => ws.length - (intOf i).toNat)
    case atStart => exact ⟨0, Nat.zero_le _, rfl, rfl⟩
    case round =>
      obtain ⟨k, hk, rfl, rfl⟩ := hrel
      by_cases hkn : k < ws.length
      · obtain ⟨g, o, rfl, hg, cV⟩ := HV.out (by omega)
        have d1 := Bc B1.out hg (sl_cell1 cT cV hkn)
        clear cV
        generalize ws[k]! = s at d1
        by_cases h200 : (200 : Int) < (s.size : Int)
        · go_wp2
          go_ret
          exact ⟨rfl, B1.out⟩
        · go_wp2
          go_roundw
          case measure => simp [intOf]; omega
          case rel => exact ⟨k + 1, by omega, by go_num, trivial⟩
      · have C1 := Lib.hid (newT_call 60 wr)
        have h3 : max (60 : Int) 0 = 60 := by decide
        rw [h3] at C1
        clear h3
        go_wp2_with fail
        refine C1.out.mono ?_
        rintro e w2 ⟨pa, rfl, hp2, hb2⟩
        have B2 := Lib.hid (B1.out.trans (hb2.mono B1.out.size))
        have X2 := Lib.hid (ColX.new (base := w.heap.size) hp2 B1.out.size hb2.size)
        have S2 := Lib.hid (HSV.out.below B2.out)
        clear hp2 hb2
        go_wp2_with fail
        refine (X2.out.ask (fun M h => pushT_yes h ws _ S2.out (by omega) (by omega) (by simp; omega) (by simp; omega))).mono ?_
        rintro e w3 ⟨rfl, hx3, hk3⟩
        have B3 := Lib.hid (B2.out.trans (hk3.below B2.out.size))
        rw [List.nil_append] at hx3
        have X3 := Lib.hid (hx3.below (Ba (Below.refl _ w3) (.map #[] 0)))
        have B4 := Lib.hid (Ba B3.out (.map #[] 0))
        have M3 := Lib.hid ((MapT.made w3).congr (g := cf (ws.take 0)) (fun s => by rw [List.take_zero]; rfl))
        have hmm := @run_makeMap Tryd.prog
        have hw3 : w.heap.size ≤ w3.heap.size := B3.out.size
        clear hx3 hk3 X2 S2
        go_wp2_with fail
        clear hmm
        go_loopw [51] (fun i wr => ∃ k : Nat, k ≤ ws.length ∧ i = .int .i64 k ∧ MapT wr w3.heap.size k (cf (ws.take k)) ∧ ColXT w.heap.size wr pa ws 60 ∧ RowKit.Below w.heap.size w wr) (fun i _ => ws.length - (intOf i).toNat)
        case atStart => exact ⟨0, Nat.zero_le _, rfl, M3.out, X3.out, B4.out⟩
        case round =>
          obtain ⟨k, hk, rfl, hm, hx, hb⟩ := hrel
          have HM := Lib.hid hm
          have HX := Lib.hid hx
          have HB := Lib.hid hb
          clear hm hx hb M3 X3 B4
          by_cases hkn : k < ws.length
          · obtain ⟨g, o, rfl, hg, cV⟩ := HV.out (by omega)
            have d1 := Bc HB.out hg (sl_cell1 cT cV hkn)
            obtain ⟨D, hown, hat0⟩ := HM.out
            have HOWN := Lib.hid hown
            have HAT := Lib.hid hat0
            have KS := Lib.hid (keyT (HSZ.out ws[k]! (by rw [getElem!_pos ws k hkn]; exact List.getElem_mem _)))
            have KZ := Lib.hid (HSZ.out ws[k]! (by rw [getElem!_pos ws k hkn]; exact List.getElem_mem _))
            have CS := Lib.hid (fun s => cnt_take_succ s ws k hkn)
            have CB := Lib.hid (fun s => cnt_le s (ws.take k))
            have hln : (ws.take k).length ≤ 60 := by simp; omega
            clear cV hown hat0
            generalize ws[k]! = s at d1 KS KZ CS
            go_wp2_with (first
              | (at_lookup; refine wpList_lookup_own_int _ rfl _ _ 53 rfl 9 3 .i64 strKeyed mapU Tryd.underlying3 (zeroI _) w3.heap.size k D (by rfl) HOWN.out _ _ (by rfl) KS.out ?_; intro c hat hwc; have HC := Lib.hid (show c = cf (ws.take k) s by have q := HAT.out s; rw [hat] at q; simpa using q); have hcb : 0 ≤ c ∧ c ≤ 60 := (by have := CB.out s; rw [HC.out]; unfold cf; omega); obtain ⟨hc0, hc60⟩ := hcb; have hwr : IntKind.i64.wrap (c + 1) = c + 1 := IntWalk.i64_in _ (by omega); have HWF := Lib.hid (wfI (c := c + 1) (by omega) (by omega)); clear hat hwc)
              | (at_mapUpdate; refine wpList_mapUpdate_own _ rfl _ _ _ 53 rfl 9 3 strKeyed mapU _ w3.heap.size k D (by rfl) HOWN.out (by unfold maxLen; omega) _ _ _ (by rfl) (by rfl) KS.out _ [] (plainElem_int Tryd.underlying3 HWF.out) ?_; intro w6 hown6 hgrow6; have M6 := Lib.hid (MapT.put HOWN.out HAT.out KZ.out hown6); have X6 := Lib.hid (HM.out.col HX.out hgrow6); have B6 := Lib.hid (bel_map HB.out hgrow6 (by omega)); clear hown6 hgrow6))
            go_roundw
            case measure => simp [intOf]; omega
            case rel =>
              refine ⟨k + 1, by omega, by go_num, M6.out.congr (fun t => ?_), X6.out, B6.out⟩
              have q := CS.out t
              unfold cf
              rw [q]
              by_cases e : s = t
              · subst e
                rw [if_pos rfl, if_pos rfl, HC.out]
                rfl
              · rw [if_neg e, if_neg e]
                omega
          · have hkw : k = ws.length := by omega
            have M5 := Lib.hid ((HM.out.congr (g := cf ws) (fun s => by rw [hkw, List.take_length])).mono (show k ≤ 60 by omega))
            have X5 := Lib.hid HX.out
            have B5 := Lib.hid HB.out
            obtain ⟨wp, rfl⟩ : ∃ wp : World, wp = wr := ⟨_, rfl⟩
            go_wp2_with fail
            clear HM HX HB hkn hk hkw
            go_loopw [62] (fun i wr => ∃ (k : Nat) (L : List ByteArray), k ≤ out.length ∧ i = .int .i64 k ∧ MapT wr w3.heap.size (60 + k) (cf L) ∧ ColXT w.heap.size wr pa L 60 ∧ L.length ≤ 60 ∧ (∀ s ∈ L, s.size ≤ maxLen) ∧ RowKit.Below w.heap.size w wr) (fun i _ => out.length - (intOf i).toNat)
            case atStart => exact ⟨0, ws, Nat.zero_le _, rfl, M5.out, X5.out, g1, HSZ.out, B5.out⟩
            case round =>
              clear M5 X5 B5
              obtain ⟨k, L, hk, rfl, hm, hx, hL, hLs, hb⟩ := hrel
              have HM := Lib.hid hm
              have HX := Lib.hid hx
              have HB := Lib.hid hb
              have HLS := Lib.hid hLs
              clear hm hx hb hLs
              by_cases hkn : k < out.length
              · obtain ⟨g, o, rfl, hg, cV⟩ := HO.out (by omega)
                have d1 := Bc HB.out hg (atI cV hkn)
                clear cV
                generalize out[k]! = i at d1
                by_cases hi : 0 ≤ i ∧ i < L.length
                · obtain ⟨h0, h1⟩ := hi
                  obtain ⟨n, rfl⟩ : ∃ n : Nat, i = n := ⟨i.toNat, by omega⟩
                  have hn : n < L.length := by omega
                  have TK := Lib.hid (HX.out.ask (fun M h => takeT_yes h n hn))
                  have KZ := Lib.hid (HLS.out L[n]! (by rw [getElem!_pos L n hn]; exact List.getElem_mem _))
                  have KS := Lib.hid (keyT KZ.out)
                  have CS := Lib.hid (fun s => cnt_takeC s L n hn)
                  have CB := Lib.hid (fun s => cnt_le s L)
                  have TL := Lib.hid (takeC_len L n)
                  have TM := Lib.hid (takeC_mem hn HLS.out)
                  generalize L[n]! = s at TK KZ KS CS
                  go_wp2_with fail
                  refine TK.out.mono ?_
                  rintro e w5 ⟨rfl, hx5, hk5⟩
                  have X5 := Lib.hid hx5
                  have B5 := Lib.hid (HB.out.trans (hk5.below HB.out.size))
                  have M5 := Lib.hid (HM.out.kx hk5)
                  clear hx5 hk5
                  obtain ⟨D, hown, hat0⟩ := M5.out
                  have HOWN := Lib.hid hown
                  have HAT := Lib.hid hat0
                  clear hown hat0
                  go_wp2_with (first
                    | (at_lookup; refine wpList_lookup_own_int _ rfl _ _ 53 rfl 9 3 .i64 strKeyed mapU Tryd.underlying3 (zeroI _) w3.heap.size (60 + k) D (by rfl) HOWN.out _ _ (by rfl) KS.out ?_; intro c hat hwc; have HC := Lib.hid (show c = cf L s by have q := HAT.out s; rw [hat] at q; simpa using q); have hcb : 0 ≤ c ∧ c ≤ 60 := (by have := CB.out s; rw [HC.out]; unfold cf; omega); obtain ⟨hc0, hc60⟩ := hcb; have hwr : IntKind.i64.wrap (c - 1) = c - 1 := IntWalk.i64_in _ (by omega); have HWF := Lib.hid (wfI (c := c - 1) (by omega) (by omega)); clear hat hwc)
                    | (at_mapUpdate; refine wpList_mapUpdate_own _ rfl _ _ _ 53 rfl 9 3 strKeyed mapU _ w3.heap.size (60 + k) D (by rfl) HOWN.out (by unfold maxLen; omega) _ _ _ (by rfl) (by rfl) KS.out _ [] (plainElem_int Tryd.underlying3 HWF.out) ?_; intro w6 hown6 hgrow6; have M6 := Lib.hid (MapT.put HOWN.out HAT.out KZ.out hown6); have X6 := Lib.hid (M5.out.col X5.out hgrow6); have B6 := Lib.hid (bel_map B5.out hgrow6 (by omega)); clear hown6 hgrow6))
                  go_roundw
                  case measure => simp [intOf]; omega
                  case rel =>
                    refine ⟨k + 1, takeC L n, by omega, by go_num, M6.out.congr (fun t => ?_), X6.out, by rw [TL.out]; omega, TM.out, B6.out⟩
                    have q := CS.out t
                    unfold cf
                    by_cases e : s = t
                    · subst e
                      rw [if_pos rfl] at q ⊢
                      rw [HC.out]
                      unfold cf
                      omega
                    · rw [if_neg e] at q ⊢
                      try unfold cf
                      omega
                · have TK := Lib.hid (takeT_no HX.out.at.choose_spec i hi t ev (Bc HB.out (cell_lt HR.out) HR.out))
                  by_cases h0 : 0 ≤ i
                  · have h1 : ¬ i < (L.length : Int) := fun h => hi ⟨h0, h⟩
                    clear hi
                    go_wp2_with fail
                    refine TK.out.mono ?_
                    rintro e w5 ⟨rfl, hb5⟩
                    have X5 := Lib.hid (HX.out.below hb5)
                    have B5 := Lib.hid (HB.out.trans (hb5.mono HB.out.size))
                    have M5 := Lib.hid ((HM.out.below hb5).mono (show 60 + k ≤ 60 + (k + 1) by omega))
                    clear hb5
                    go_wp2_with fail
                    refine (lenT_call X5.out.at.choose_spec).mono ?_
                    rintro e w6 ⟨rfl, rfl⟩
                    go_wp2
                    go_roundw
                    case measure => simp [intOf]; omega
                    case rel => exact ⟨k + 1, L, by omega, by go_num, M5.out, X5.out, hL, HLS.out, B5.out⟩
                  · clear hi
                    go_wp2_with fail
                    refine TK.out.mono ?_
                    rintro e w5 ⟨rfl, hb5⟩
                    have X5 := Lib.hid (HX.out.below hb5)
                    have B5 := Lib.hid (HB.out.trans (hb5.mono HB.out.size))
                    have M5 := Lib.hid ((HM.out.below hb5).mono (show 60 + k ≤ 60 + (k + 1) by omega))
                    clear hb5
                    go_wp2
                    go_roundw
                    case measure => simp [intOf]; omega
                    case rel => exact ⟨k + 1, L, by omega, by go_num, M5.out, X5.out, hL, HLS.out, B5.out⟩
              · have AC := Lib.hid (allT_call HX.out.at.choose_spec (by omega))
                go_wp2_with fail
                refine AC.out.mono ?_
                rintro e w5 ⟨v5, rfl, ho5, hb5⟩
                obtain ⟨p5, c5, rfl, r1, r2, r3⟩ := row_val ho5
                unfold maxLen at r2
                have B5 := Lib.hid (HB.out.trans (hb5.mono HB.out.size))
                have M5 := Lib.hid (((HM.out.below hb5).congr (g := cf (L.drop 0)) (fun s => by rw [List.drop_zero])).mono (show 60 + k ≤ 120 by omega))
                have O5 := Lib.hid (row_mono ho5 HB.out.size)
                have R3 := Lib.hid r3
                clear ho5 hb5 r3 HM HX HB hkn hk
                go_wp2_with fail
                go_loopw [90] (fun i wr => ∃ k : Nat, k ≤ L.length ∧ i = .int .i64 k ∧ MapT wr w3.heap.size (120 + k) (cf (L.drop k)) ∧ wr.ownsRow w.heap.size 9 1 (.slice p5 L.length c5) L.length (flat encT L) ∧ RowKit.Below w.heap.size w wr) (fun i _ => L.length - (intOf i).toNat)
                case atStart => exact ⟨0, Nat.zero_le _, rfl, M5.out, O5.out, B5.out⟩
                case round =>
                  clear M5 O5 B5
                  obtain ⟨k, hk, rfl, hm, ho, hb⟩ := hrel
                  have HM := Lib.hid hm
                  have HW := Lib.hid ho
                  have HB := Lib.hid hb
                  clear hm ho hb
                  by_cases hkn : k < L.length
                  · obtain ⟨g, rfl, _, _⟩ := R3.out (by omega)
                    have d1 := row_cell1 cT HW.out k hkn
                    have hg := cell_lt d1
                    obtain ⟨D, hown, hat0⟩ := HM.out
                    have HOWN := Lib.hid hown
                    have HAT := Lib.hid hat0
                    have KZ := Lib.hid (HLS.out L[k]! (by rw [getElem!_pos L k hkn]; exact List.getElem_mem _))
                    have KS := Lib.hid (keyT KZ.out)
                    have CS := Lib.hid (fun s => cnt_drop s L k hkn)
                    have CB := Lib.hid (fun s => cnt_le s (L.drop k))
                    have hln : (L.drop k).length ≤ 60 := by simp; omega
                    clear hown hat0
                    generalize L[k]! = s at d1 KS KZ CS
                    go_wp2_with (first
                      | (at_lookup; refine wpList_lookup_own_int _ rfl _ _ 53 rfl 9 3 .i64 strKeyed mapU Tryd.underlying3 (zeroI _) w3.heap.size (120 + k) D (by rfl) HOWN.out _ _ (by rfl) KS.out ?_; intro c hat hwc; have HC := Lib.hid (show c = cf (L.drop k) s by have q := HAT.out s; rw [hat] at q; simpa using q); have hcb : 0 ≤ c ∧ c ≤ 60 := (by have := CB.out s; rw [HC.out]; unfold cf; omega); obtain ⟨hc0, hc60⟩ := hcb; have hwr : IntKind.i64.wrap (c - 1) = c - 1 := IntWalk.i64_in _ (by omega); have HWF := Lib.hid (wfI (c := c - 1) (by omega) (by omega)); clear hat hwc)
                      | (at_mapUpdate; refine wpList_mapUpdate_own _ rfl _ _ _ 53 rfl 9 3 strKeyed mapU _ w3.heap.size (120 + k) D (by rfl) HOWN.out (by unfold maxLen; omega) _ _ _ (by rfl) (by rfl) KS.out _ [] (plainElem_int Tryd.underlying3 HWF.out) ?_; intro w6 hown6 hgrow6; have M6 := Lib.hid (MapT.put HOWN.out HAT.out KZ.out hown6); have O6 := Lib.hid (HM.out.row HW.out hgrow6); have B6 := Lib.hid (bel_map HB.out hgrow6 (by omega)); clear hown6 hgrow6))
                    go_roundw
                    case measure => simp [intOf]; omega
                    case rel =>
                      refine ⟨k + 1, by omega, by go_num, M6.out.congr (fun t => ?_), O6.out, B6.out⟩
                      have q := CS.out t
                      unfold cf
                      by_cases e : s = t
                      · subst e
                        rw [if_pos rfl] at q ⊢
                        rw [HC.out]
                        unfold cf
                        omega
                      · rw [if_neg e] at q ⊢
                        try unfold cf
                        omega
                  · have hkl : k = L.length := by omega
                    have MT := (HM.out.congr (g := fun _ => 0) (fun s => by rw [hkl, List.drop_length]; rfl)).mono (show 120 + k ≤ 200 by omega)
                    obtain ⟨D, hown, hat0⟩ := MT
                    have HOWN := Lib.hid hown
                    have HAT := Lib.hid hat0
                    clear hown hat0 HW HM
                    obtain ⟨wc, rfl⟩ : ∃ wc : World, wc = wr := ⟨_, rfl⟩
                    go_wp2_with (at_range; refine wpList_range_own _ rfl _ 53 rfl 9 3 strKeyed mapU (plainElem Tryd.prog 3) w3.heap.size 200 D (by rfl) HOWN.out ?_; intro wR hrg0 hgR hsR; skip)
                    try go_frame
                    have RG0 := Lib.hid hrg0
                    have BR0 := Lib.hid (grown_below hgR)
                    clear hrg0 hgR hsR
                    go_loopw [101] (fun _ wr => ∃ left cnt, wr.ranges Tryd.prog 9 (plainElem Tryd.prog 3) w3.heap.size wc.heap.size 200 D left cnt ∧ RowKit.Below wc.heap.size wc wr) (fun _ wr => wr.rangeLeft w3.heap.size wc.heap.size)
                    case atStart => exact ⟨_, _, RG0.out, BR0.out⟩
                    case round =>
                      obtain ⟨left, cnt, hrg, hbw⟩ := hrel
                      have RG := Lib.hid hrg
                      have BW := Lib.hid hbw
                      clear hrg hbw
                      go_wp2_with (at_next; refine wpList_next_ranges _ rfl _ rfl 9 strKeyed (plainElem Tryd.prog 3) Value.string (Value.int .i64) invT invI w3.heap.size wc.heap.size 200 D left cnt (by rfl) RG.out ?_ ?_)
                      · intro _ _
                        go_wp2
                        go_ret
                        exact ⟨rfl, HB.out.trans (BW.out.mono HB.out.size)⟩
                      · intro x c kl yd yp wn cnt' hkey hlk hy hat hrgn hlt hgn hszn hen
                        obtain rfl := range_zero (yp := (yd, yp)) HAT.out hkey hy hat
                        have BN := Lib.hid (bel_iter (w' := wn) BW.out (by simpa using hgn))
                        have RN := Lib.hid hrgn
                        have HLT := Lib.hid hlt
                        clear hkey hlk hy hat hrgn hlt hgn
                        go_wp2
                        go_roundw
                        case measure => rw [RN.out.left_eq, RG.out.left_eq]; exact HLT.out
                        case rel => exact ⟨_, _, RN.out, BN.out⟩
  · by_cases g1 : ws.length ≤ 60
    · have n1 : ¬ (60 : Int) < (ws.length : Int) := by omega
      have n2 : (60 : Int) < (out.length : Int) := by omega
      clear hbig
      go_enter Tryd.func4, Tryd.ntmps4
      go_wp2_with fail
      refine (alive_any w).mono ?_
      rintro e w1 ⟨rfl, hb1⟩
      go_wp2
      go_ret
      exact ⟨rfl, hb1⟩
    · have n1 : (60 : Int) < (ws.length : Int) := by omega
      clear hbig
      go_enter Tryd.func4, Tryd.ntmps4
      go_wp2_with fail
      refine (alive_any w).mono ?_
      rintro e w1 ⟨rfl, hb1⟩
      go_wp2
      go_ret
      exact ⟨rfl, hb1⟩
end Go.Proofs.YtfoagdnbegpjeaaDoor
