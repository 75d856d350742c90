/-
  TableSets, walked.
-/
import Derived.Test.YtknfmjjlfhfocaaDoorLTf
import Derived.Test.YtknfmjjlfhfocaaDoorVv
namespace Go.Proofs.YtknfmjjlfhfocaaDoor
set_option linter.unusedSimpArgs false
set_option linter.unusedVariables false
open Go.RowKit Go.Sort Go.Lib Go.Shelf

theorem maskOf_call (l : List Vl) (v : Value) (w : World) (hl : Sl encV w v l) (hr : ∀ x ∈ l, chk x = 0) (hlen : l.length ≤ 100000) :
    Calls Tryd.prog 29 #[v] w fun e w' => e = .returned (.int .u64 (maskV l : Nat)) ∧ RowKit.Below w.heap.size w w' := by
  have C := Lib.hid (rmask_call l v w hl hr hlen)
  obtain ⟨p, cap, rfl, _, _, _⟩ := hl
  generalize maskV l = q at *
  go_enter Tryd.func29, Tryd.ntmps29
  go_wp2_with fail
  refine C.out.mono ?_
  rintro e w1 ⟨rfl, hb1⟩
  go_wp2
  go_ret
  exact ⟨rfl, hb1⟩
/-- So many rows of one kind. -/
def rowsN (l : List Vl) (n : Nat) : List En := (List.range n).map fun j : Nat => ((((j : Nat) : Int), (1 : Int)), l)
theorem rowsN_succ (l : List Vl) (n : Nat) : rowsN l (n + 1) = rowsN l n ++ [(((n : Int), 1), l)] := by simp [rowsN, List.range_succ]
theorem rowsN_len (l : List Vl) (n : Nat) : (rowsN l n).length = n := by simp [rowsN]
theorem rowsN_at (l : List Vl) {n j : Nat} (h : j < n) : (rowsN l n)[j]! = (((j : Int), 1), l) := by
  rw [getElem!_pos _ j (by rw [rowsN_len]; exact h)]
  simp [rowsN]
def SetsC (v : Value) (m wh x1 x2 x3 : Int) : Obj := .cells #[v, .int .i64 m, .int .i64 wh, .int .i64 x1, .int .i64 x2, .int .i64 x3] 75
section
variable {A : Nat → Addr}
set_option maxHeartbeats 16000000 in
set_option maxRecDepth 100000 in
theorem tableSets_walk (l : List Vl) (v : Value) (m0 wh0 x1 x2 x3 : Int) (w : World) (hv : Sl encV w v l) (hE : Er7 w A) (hT : TabW w) :
    Calls Tryd.prog 6 #[.agg #[v, .int .i64 m0, .int .i64 wh0, .int .i64 x1, .int .i64 x2, .int .i64 x3]] w fun e w' => e = .returned (.bool true) ∧ RowKit.Below w.heap.size w w' := by
  have HE := Lib.hid hE
  have HT := Lib.hid hT
  have HV := Lib.hid hv
  have C0 : Hid (∀ W, RowKit.Below w.heap.size w W → Calls Tryd.prog 7 #[] W fun e w' => e = .returned (.bool true) ∧ RowKit.Below W.heap.size W w') := fun W hb => alive_any W (hE.below hb) (hT.below hb)
  obtain ⟨p, cap, rfl, hc1, hc2, _⟩ := hv
  unfold maxLen at hc2
  have hbl : l.length ≤ 9223372036854775807 := by omega
  clear hE hT
  go_enter Tryd.func6, Tryd.ntmps6
  go_wp2_with fail
  go_region
  obtain ⟨W1, hW1⟩ : ∃ W1, W1 = ((w.alloc (SetsC (.slice p l.length cap) m0 wh0 x1 x2 x3)).alloc (.cells #[.int .i64 x1, .int .i64 x2, .int .i64 x3] 41)).drew := ⟨_, rfl⟩
  have B1 := Lib.hid (show RowKit.Below w.heap.size w W1 by rw [hW1]; exact (Ba (Ba (Below.refl _ w) _) _).drew)
  have b1 := Lib.hid (show W1.heap[w.heap.size + 1]? = some (.cells #[.int .i64 x1, .int .i64 x2, .int .i64 x3] 41 (0, 0)) by rw [hW1]; have := heap_alloc_new (w.alloc (SetsC (.slice p l.length cap) m0 wh0 x1 x2 x3)) (.cells #[.int .i64 x1, .int .i64 x2, .int .i64 x3] 41); rw [show (w.alloc (SetsC (.slice p l.length cap) m0 wh0 x1 x2 x3)).heap.size = w.heap.size + 1 by simp] at this; exact this)
  rw [hW1] at B1 b1
  unfold SetsC at B1 b1
  clear hW1
  go_wp2_with fail
  refine (C0.out _ B1.out).mono ?_
  rintro e w1 ⟨rfl, hb1⟩
  have B2 := Lib.hid (Bt B1.out hb1)
  have b2 := Lib.hid (blk_below b1.out hb1)
  clear hb1 B1 b1 C0
  obtain ⟨vb, hvb⟩ : ∃ vb, vb = w.heap.size + 1 := ⟨_, rfl⟩
  have HVB := Lib.hid hvb
  rw [← hvb] at b2 ⊢
  clear hvb
  obtain ⟨⟨z0, z1, z2⟩, _, _, _⟩ := three_cells b2.out
  by_cases h1 : l.length < 1
  · go_wp2
    go_ret
    exact ⟨rfl, B2.out⟩
  by_cases h10 : 10 < l.length
  · go_wp2
    go_ret
    exact ⟨rfl, B2.out⟩
  have h1' : ¬ ((l.length : Int) < 1) := by omega
  have h10' : ¬ (10 < (l.length : Int)) := by omega
  have C1 := Lib.hid (rright_call l _ w1 (HV.out.below B2.out) (by omega))
  cases hr : rightB l
  · rw [hr] at C1
    go_wp2_with fail
    refine C1.out.mono ?_
    rintro e w2 ⟨rfl, hb2⟩
    have B3 := Lib.hid (Bt B2.out hb2)
    go_wp2
    go_ret
    exact ⟨rfl, B3.out⟩
  rw [hr] at C1
  have HR := Lib.hid ((rightB_iff l).1 hr)
  have HRB := Lib.hid hr
  clear hr
  go_wp2_with fail
  refine C1.out.mono ?_
  rintro e w2 ⟨rfl, hb2⟩
  have B3 := Lib.hid (Bt B2.out hb2)
  have b3 := Lib.hid (blk_below b2.out hb2)
  clear hb2 B2 b2 C1 z0 z1 z2
  obtain ⟨⟨z0, z1, z2⟩, _, _, _⟩ := three_cells b3.out
  have C2 := Lib.hid (rcheck_any (x1, x2, x3) w2)
  unfold aggV at C2
  dsimp only at C2
  by_cases hc : chk (x1, x2, x3) = 0
  rotate_left
  · have hc2 : (((chk (x1, x2, x3) : Nat) : Int) != 0) = true := by simp; exact hc
    generalize chk (x1, x2, x3) = cn at *
    go_wp2_with fail
    refine C2.out.mono ?_
    rintro e w3 ⟨rfl, hg3⟩
    have B4 := Lib.hid (Bt B3.out hg3.below)
    clear hg3
    go_wp2
    go_ret
    exact ⟨rfl, B4.out⟩
  rw [hc] at C2
  have HC := Lib.hid hc
  clear hc
  go_wp2_with fail
  refine C2.out.mono ?_
  rintro e w3 ⟨rfl, hg3⟩
  have B4 := Lib.hid (Bt B3.out hg3.below)
  have b4 := Lib.hid (blk_below b3.out hg3.below)
  clear hg3 B3 b3 C2 z0 z1 z2
  obtain ⟨k, hk, he⟩ := idx_any m0 20 (by omega) (by omega)
  rw [show ((20 : Nat) : Int) = 20 from rfl] at he
  obtain ⟨n, hn, he3⟩ := idx_any wh0 (1 + k) (by omega) (by omega)
  rw [show ((1 + k : Nat) : Int) = 1 + (k : Int) by omega] at he3
  have he2 : IntKind.u64.wrap (1 + (k : Int)) = 1 + (k : Int) := by rw [IntKind.wrap_u64]; omega
  have C3 := Lib.hid (maskOf_call l _ w3 (HV.out.below B4.out) HR.out.2 (by omega))
  obtain ⟨q, hq⟩ : ∃ q, q = maskV l := ⟨_, rfl⟩
  have hok : ∀ h : Hd, EntOk q (h, l) := fun h => ent_of HRB.out hq.symm
  have HOK := Lib.hid hok
  have hql : q < 1024 := by rw [hq]; exact mask_lt HR.out
  rw [← hq] at C3
  have HQ := Lib.hid hq
  clear hq hok
  go_wp2_with fail
  simp only [he3]
  clear he he2 he3
  refine C3.out.mono ?_
  rintro e w4 ⟨rfl, hb4⟩
  have B5 := Lib.hid (Bt B4.out hb4)
  have b5 := Lib.hid (blk_below b4.out hb4)
  clear hb4 B4 b4 C3
  have C4 := Lib.hid (newX (N := fun b => b = vb) (base := w.heap.size) (q := q) (w := w4) hql B5.out.size (fun b e => by rw [e]; exact (Array.getElem?_eq_some_iff.1 b5.out).1) (HT.out.below B5.out))
  go_wp2_with fail
  refine C4.out.mono ?_
  rintro e w5 ⟨pt, rfl, hT5, hb5⟩
  have T5 := Lib.hid hT5
  have B6 := Lib.hid (Bt B5.out hb5)
  have b6 := Lib.hid (blk_below b5.out hb5)
  clear hT5 hb5 C4 B5 b5
  have h1k : (0 : Int) ≤ 1 + (k : Int) := by omega
  go_wp2
  go_loopw [70] (fun s70 wr => ∃ i : Nat, s70 = .int .i64 i ∧ i ≤ 1 + k ∧ Hid (TabO (fun b => b = vb) w.heap.size wr pt q (rowsN l i)) ∧ Hid (RowKit.Below w.heap.size w wr) ∧ Hid (wr.heap[vb]? = some (.cells #[.int .i64 x1, .int .i64 x2, .int .i64 x3] 41 (0, 0)))) (fun i _ => 1 + k - (intOf i).toNat)
  case atStart => exact ⟨0, rfl, by omega, T5, B6, b6⟩
  case round =>
    obtain ⟨i, rfl, hi, HTr, HB, Hvb⟩ := hrel
    by_cases hin : i < 1 + k
    · have CA := Lib.hid (addX HTr.out i 1 l _ (HV.out.slN.below HB.out) (fun b e => .inl e) (by omega) HRB.out HQ.out.symm (by rw [rowsN_len]; omega) (HE.out.below HB.out))
      rw [← rowsN_succ] at CA
      go_wp2_with fail
      refine CA.out.mono ?_
      rintro e w6 ⟨rfl, hT6, ht6⟩
      have T6 := Lib.hid hT6
      have B7 := Lib.hid (HB.out.trans (OffT.below ht6 HB.out.size))
      have b7 := Lib.hid (ht6.blk Hvb.out (fun e => e.2 rfl))
      clear hT6 ht6 CA
      go_wp2
      go_roundw
      case measure => simp [intOf]; omega
      case rel => exact ⟨i + 1, by go_num, by omega, T6.out, B7.out, b7.out⟩
    · have hii : i = 1 + k := by omega
      subst hii
      obtain ⟨⟨z0, z1, z2⟩, _, _, _⟩ := three_cells Hvb.out
      have hkk := (kindB_iff x1).1 (chk_kind HC.out)
      have hkw : (Lit.int .i64 x1).wf = true := WalkArith.wf_i64 (by omega)
      have hHas := has_iff (HOK.out (0, 0)) x1
      dsimp only at hHas
      have CF : Hid (∀ W, RowKit.Below w.heap.size w W → Calls Tryd.prog 30 #[.slice p l.length cap, .int .i64 x1] W fun e w' => e = .returned (.tuple #[aggV (fndV l x1), .bool (hasK l x1)]) ∧ Gr W w') := fun W hb => rfind_call l _ x1 W (HV.out.below hb)
      unfold aggV at CF
      rw [hHas] at CF
      generalize fndV l x1 = fv at *
      obtain ⟨f1, f2, f3⟩ := fv
      dsimp only at CF
      have hnl : n < (rowsN l (1 + k)).length := by rw [rowsN_len]; exact hn
      have hat : (rowsN l (1 + k))[n] = (((n : Int), 1), l) := by rw [← getElem!_pos _ n hnl]; exact rowsN_at l hn
      by_cases hk1 : x1 ∈ Ks q
      · rw [decide_eq_true hk1] at CF
        have CS := Lib.hid (setX HTr.out n hnl x1 x2 x3 hk1 hkw HC.out (HE.out.below HB.out))
        rw [hat] at CS
        dsimp only at CS
        obtain ⟨R', hR'⟩ : ∃ R', R' = (rowsN l (1 + k)).set n (((n : Int), 1), putV l (x1, x2, x3)) := ⟨_, rfl⟩
        rw [← hR'] at CS
        have HL : Hid (R'.length = 1 + k) := by show _ = _; rw [hR', List.length_set, rowsN_len]
        have HAT : Hid (∀ j, j < 1 + k → R'[j]! = (((j : Int), 1), if j = n then putV l (x1, x2, x3) else l)) := fun j hj => by
          rw [hR', getElem!_pos _ j (by rw [List.length_set, rowsN_len]; exact hj), List.getElem_set]
          by_cases c : n = j
          · rw [if_pos c, if_pos c.symm, c]
          · rw [if_neg c, if_neg (fun e => c e.symm), ← getElem!_pos _ j, rowsN_at l hj]
        clear hR' hat hnl hHas hk1
        go_wp2_with fail
        refine CS.out.mono ?_
        rintro e w6 ⟨rfl, hT6, ht6⟩
        have T6 := Lib.hid hT6
        have B7 := Lib.hid (HB.out.trans (OffT.below ht6 HB.out.size))
        have b7 := Lib.hid (ht6.blk Hvb.out (fun e => e.2 rfl))
        clear hT6 ht6 CS z0 z1 z2
        obtain ⟨⟨z0, z1, z2⟩, _, _, _⟩ := three_cells b7.out
        go_wp2_with fail
        refine (CF.out _ B7.out).mono ?_
        rintro e w7 ⟨rfl, hg7⟩
        have T7 := Lib.hid (T6.out.below (Ba hg7.below (.cells #[.int .i64 f1, .int .i64 f2, .int .i64 f3] 41)))
        have B8 := Lib.hid (Bt B7.out (Ba hg7.below (.cells #[.int .i64 f1, .int .i64 f2, .int .i64 f3] 41)))
        have b8 := Lib.hid (blk_below b7.out (Ba hg7.below (.cells #[.int .i64 f1, .int .i64 f2, .int .i64 f3] 41)))
        clear hg7 CF T6 B7 b7 z0 z1 z2
        go_wp2
        go_loopw [100] (fun s100 wr => ∃ i : Nat, s100 = .int .i64 i ∧ i ≤ 1 + k ∧ Hid (TabO (fun b => b = vb) w.heap.size wr pt q R') ∧ Hid (RowKit.Below w.heap.size w wr) ∧ Hid (wr.heap[vb]? = some (.cells #[.int .i64 x1, .int .i64 x2, .int .i64 x3] 41 (0, 0)))) (fun i _ => 1 + k - (intOf i).toNat)
        case atStart => exact ⟨0, rfl, by omega, T7, B8, b8⟩
        case round =>
          obtain ⟨i, rfl, hi, HTi, HBi, Hvi⟩ := hrel
          by_cases hin2 : i < 1 + k
          · have CE := Lib.hid (fun W (hb : RowKit.Below wr.heap.size wr W) => (HTi.out.below hb).read fun M h => tent_yes h i (by rw [HL.out]; exact hin2) (HT.out.below (Bt HBi.out hb)))
            rw [HAT.out i hin2] at CE
            dsimp only at CE
            by_cases hin3 : i = n
            · rw [if_pos hin3] at CE
              subst hin3
              obtain ⟨⟨z0, z1, z2⟩, _, _, _⟩ := three_cells Hvi.out
              have CP := Lib.hid (rput_call l _ x1 x2 x3 wr (HV.out.below HBi.out) HR.out HC.out (by omega))
              go_wp2_with fail
              refine CP.out.mono ?_
              rintro e w8 ⟨⟨vp, rfl, hsp⟩, hb8⟩
              have SP := Lib.hid hsp
              have H8 := Lib.hid hb8
              obtain ⟨pp, cp, hvp, _, _, _⟩ := hsp
              subst hvp
              clear hb8 CP z0 z1 z2
              go_wp2_with fail
              refine (CE.out _ H8.out).mono ?_
              rintro e w9 ⟨ve, rfl, ho9, hb9⟩
              have S9 := Lib.hid (row_sl lenV ho9 rfl)
              obtain ⟨pe, ce, rfl, _, _, _⟩ := row_val ho9
              obtain ⟨W9, hW9⟩ : ∃ W9, W9 = w9.alloc (.cells #[.int .i64 i, .int .i64 1, .slice pe (putV l (x1, x2, x3)).length ce] 51) := ⟨_, rfl⟩
              have bb := Lib.hid (show RowKit.Below w9.heap.size w9 W9 by rw [hW9]; exact Ba (Below.refl _ _) _)
              have B9 := Lib.hid (Bt (Bt HBi.out H8.out) (Bt hb9 bb.out))
              have T9 := Lib.hid ((HTi.out.below H8.out).below (Bt hb9 bb.out))
              have b9 := Lib.hid (blk_below (blk_below Hvi.out H8.out) (Bt hb9 bb.out))
              have e9 := Lib.hid (show W9.heap[w9.heap.size]? = some (.cells #[.int .i64 i, .int .i64 1, .slice pe (putV l (x1, x2, x3)).length ce] 51 (0, 0)) by rw [hW9]; exact heap_alloc_new w9 _)
              have CM := Lib.hid (same_call (putV l (x1, x2, x3)) (putV l (x1, x2, x3)) (.slice pe (putV l (x1, x2, x3)).length ce) (.slice pp (putV l (x1, x2, x3)).length cp) W9 (S9.out.below bb.out) (SP.out.below (Bt hb9 bb.out)))
              rw [decide_eq_true (rfl : (putV l (x1, x2, x3)) = (putV l (x1, x2, x3)))] at CM
              rw [hW9] at CM
              obtain ⟨⟨y0, y1, y2⟩, _, _, _⟩ := three_cells e9.out
              clear hb9 ho9 CE
              go_wp2_with fail
              refine CM.out.mono ?_
              rintro e w10 ⟨rfl, hg10⟩
              rw [← hW9] at hg10
              have T10 := Lib.hid (T9.out.below hg10.below)
              have B10 := Lib.hid (Bt B9.out hg10.below)
              have b10 := Lib.hid (blk_below b9.out hg10.below)
              have e10 := Lib.hid (blk_below e9.out hg10.below)
              clear y0 y1 y2 hg10 CM hW9
              obtain ⟨⟨y0, y1, y2⟩, _, _, _⟩ := three_cells e10.out
              go_wp2
              go_roundw
              case measure => simp [intOf]; omega
              case rel => exact ⟨i + 1, by go_num, by omega, T10.out, B10.out, b10.out⟩
            · rw [if_neg hin3] at CE
              go_wp2_with fail
              refine (CE.out _ (Below.refl _ _)).mono ?_
              rintro e w9 ⟨ve, rfl, ho9, hb9⟩
              have S9 := Lib.hid (row_sl lenV ho9 rfl)
              obtain ⟨pe, ce, rfl, _, _, _⟩ := row_val ho9
              obtain ⟨W9, hW9⟩ : ∃ W9, W9 = w9.alloc (.cells #[.int .i64 i, .int .i64 1, .slice pe (l).length ce] 51) := ⟨_, rfl⟩
              have bb := Lib.hid (show RowKit.Below w9.heap.size w9 W9 by rw [hW9]; exact Ba (Below.refl _ _) _)
              have B9 := Lib.hid (Bt (HBi.out) (Bt hb9 bb.out))
              have T9 := Lib.hid (HTi.out.below (Bt hb9 bb.out))
              have b9 := Lib.hid (blk_below Hvi.out (Bt hb9 bb.out))
              have e9 := Lib.hid (show W9.heap[w9.heap.size]? = some (.cells #[.int .i64 i, .int .i64 1, .slice pe (l).length ce] 51 (0, 0)) by rw [hW9]; exact heap_alloc_new w9 _)
              have CM := Lib.hid (same_call (l) (l) (.slice pe (l).length ce) (.slice p l.length cap) W9 (S9.out.below bb.out) (HV.out.below B9.out))
              rw [decide_eq_true (rfl : (l) = (l))] at CM
              rw [hW9] at CM
              obtain ⟨⟨y0, y1, y2⟩, _, _, _⟩ := three_cells e9.out
              clear hb9 ho9 CE
              go_wp2_with fail
              refine CM.out.mono ?_
              rintro e w10 ⟨rfl, hg10⟩
              rw [← hW9] at hg10
              have T10 := Lib.hid (T9.out.below hg10.below)
              have B10 := Lib.hid (Bt B9.out hg10.below)
              have b10 := Lib.hid (blk_below b9.out hg10.below)
              have e10 := Lib.hid (blk_below e9.out hg10.below)
              clear y0 y1 y2 hg10 CM hW9
              obtain ⟨⟨y0, y1, y2⟩, _, _, _⟩ := three_cells e10.out
              go_wp2
              go_roundw
              case measure => simp [intOf]; omega
              case rel => exact ⟨i + 1, by go_num, by omega, T10.out, B10.out, b10.out⟩

          · go_wp2
            go_ret
            exact ⟨rfl, HBi.out⟩

      · rw [decide_eq_false hk1] at CF
        have CS := Lib.hid (HTr.out.read fun M h => tset_kind h n hnl x1 x2 x3 hk1 hkw (HE.out.below HB.out))
        obtain ⟨R', hR'⟩ : ∃ R', R' = rowsN l (1 + k) := ⟨_, rfl⟩
        have HL : Hid (R'.length = 1 + k) := by show _ = _; rw [hR', rowsN_len]
        have HAT : Hid (∀ j, j < 1 + k → R'[j]! = (((j : Int), 1), l)) := fun j hj => by rw [hR']; exact rowsN_at l hj
        have HTr2 := Lib.hid HTr.out
        rw [← hR'] at HTr2
        clear hR' hat hnl hHas hk1 HTr
        unfold errC at CS
        go_wp2_with fail
        refine CS.out.mono ?_
        rintro e w6 ⟨rfl, hb6⟩
        have T6 := Lib.hid (HTr2.out.below hb6)
        have B7 := Lib.hid (Bt HB.out hb6)
        have b7 := Lib.hid (blk_below Hvb.out hb6)
        clear hb6 CS z0 z1 z2
        obtain ⟨⟨z0, z1, z2⟩, _, _, _⟩ := three_cells b7.out
        go_wp2_with fail
        refine (CF.out _ B7.out).mono ?_
        rintro e w7 ⟨rfl, hg7⟩
        have T7 := Lib.hid (T6.out.below (Ba hg7.below (.cells #[.int .i64 f1, .int .i64 f2, .int .i64 f3] 41)))
        have B8 := Lib.hid (Bt B7.out (Ba hg7.below (.cells #[.int .i64 f1, .int .i64 f2, .int .i64 f3] 41)))
        have b8 := Lib.hid (blk_below b7.out (Ba hg7.below (.cells #[.int .i64 f1, .int .i64 f2, .int .i64 f3] 41)))
        clear hg7 CF T6 B7 b7 z0 z1 z2
        go_wp2
        go_loopw [100] (fun s100 wr => ∃ i : Nat, s100 = .int .i64 i ∧ i ≤ 1 + k ∧ Hid (TabO (fun b => b = vb) w.heap.size wr pt q R') ∧ Hid (RowKit.Below w.heap.size w wr) ∧ Hid (wr.heap[vb]? = some (.cells #[.int .i64 x1, .int .i64 x2, .int .i64 x3] 41 (0, 0)))) (fun i _ => 1 + k - (intOf i).toNat)
        case atStart => exact ⟨0, rfl, by omega, T7, B8, b8⟩
        case round =>
          obtain ⟨i, rfl, hi, HTi, HBi, Hvi⟩ := hrel
          by_cases hin2 : i < 1 + k
          · have CE := Lib.hid (fun W (hb : RowKit.Below wr.heap.size wr W) => (HTi.out.below hb).read fun M h => tent_yes h i (by rw [HL.out]; exact hin2) (HT.out.below (Bt HBi.out hb)))
            rw [HAT.out i hin2] at CE
            dsimp only at CE
            go_wp2_with fail
            refine (CE.out _ (Below.refl _ _)).mono ?_
            rintro e w9 ⟨ve, rfl, ho9, hb9⟩
            have S9 := Lib.hid (row_sl lenV ho9 rfl)
            obtain ⟨pe, ce, rfl, _, _, _⟩ := row_val ho9
            obtain ⟨W9, hW9⟩ : ∃ W9, W9 = w9.alloc (.cells #[.int .i64 i, .int .i64 1, .slice pe (l).length ce] 51) := ⟨_, rfl⟩
            have bb := Lib.hid (show RowKit.Below w9.heap.size w9 W9 by rw [hW9]; exact Ba (Below.refl _ _) _)
            have B9 := Lib.hid (Bt (HBi.out) (Bt hb9 bb.out))
            have T9 := Lib.hid (HTi.out.below (Bt hb9 bb.out))
            have b9 := Lib.hid (blk_below Hvi.out (Bt hb9 bb.out))
            have e9 := Lib.hid (show W9.heap[w9.heap.size]? = some (.cells #[.int .i64 i, .int .i64 1, .slice pe (l).length ce] 51 (0, 0)) by rw [hW9]; exact heap_alloc_new w9 _)
            have CM := Lib.hid (same_call (l) (l) (.slice pe (l).length ce) (.slice p l.length cap) W9 (S9.out.below bb.out) (HV.out.below B9.out))
            rw [decide_eq_true (rfl : (l) = (l))] at CM
            rw [hW9] at CM
            obtain ⟨⟨y0, y1, y2⟩, _, _, _⟩ := three_cells e9.out
            clear hb9 ho9 CE
            go_wp2_with fail
            refine CM.out.mono ?_
            rintro e w10 ⟨rfl, hg10⟩
            rw [← hW9] at hg10
            have T10 := Lib.hid (T9.out.below hg10.below)
            have B10 := Lib.hid (Bt B9.out hg10.below)
            have b10 := Lib.hid (blk_below b9.out hg10.below)
            have e10 := Lib.hid (blk_below e9.out hg10.below)
            clear y0 y1 y2 hg10 CM hW9
            obtain ⟨⟨y0, y1, y2⟩, _, _, _⟩ := three_cells e10.out
            go_wp2
            go_roundw
            case measure => simp [intOf]; omega
            case rel => exact ⟨i + 1, by go_num, by omega, T10.out, B10.out, b10.out⟩

          · go_wp2
            go_ret
            exact ⟨rfl, HBi.out⟩

end
end Go.Proofs.YtknfmjjlfhfocaaDoor
