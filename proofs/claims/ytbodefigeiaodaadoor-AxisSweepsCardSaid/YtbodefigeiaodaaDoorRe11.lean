/-
  The reference: BoxPairs.
-/
import Derived.Test.YtbodefigeiaodaaDoorRc11
import Derived.Test.YtbodefigeiaodaaDoorRPairs
import Derived.Test.YtbodefigeiaodaaDoorPw11
namespace Go.Proofs.YtbodefigeiaodaaDoor
set_option linter.unusedSimpArgs false
set_option linter.unusedVariables false
open Go.RowKit Go.Sort Go.Lib Go.Shelf

theorem rmeets_meetsX (a b : Bxd) : rmeetsB a.2.1 a.2.2.1 a.2.2.2.1 a.2.2.2.2 b.2.1 b.2.2.1 b.2.2.2.1 b.2.2.2.2 = meetsX a b := by
  unfold rmeetsB meetsX meets xsp ysp
  rw [Bool.eq_iff_iff]
  simp only [Bool.not_eq_true', Bool.or_eq_false_iff, Bool.and_eq_true, decide_eq_true_eq, decide_eq_false_iff_not]
  omega
theorem allX_len {B : List Bxd} (h : B.length ≤ 100) : (allX B).length ≤ 10000 := by
  have h1 := allP_len (f := meetsX) (hd := fun b : Bxd => b.1) B []
  have h2 := Nat.mul_le_mul h h
  simp only [List.length_nil, Nat.zero_add] at h1
  unfold allX
  omega
set_option maxHeartbeats 2000000 in
set_option maxRecDepth 100000 in
theorem boxPairs_call (B : List Bxd) (v : Value) (w : World) (hl : Sl encBx w v B) (hn : B.length ≤ 100) :
    Calls Tryd.prog 29 #[v] w fun e w' => ∃ v', e = .returned v' ∧ w'.ownsRow w.heap.size 68 4 v' (pairsB B).length (flat encP (pairsB B)) ∧ RowKit.Below w.heap.size w w' := by
  have RP := Lib.hid (fun (v : Value) (w' : World) (h : Sl encP w' v (allX B)) => rpairs_call (allX B) v w' h (allX_len hn))
  obtain ⟨p0, c0, rfl, v1, v2, v3⟩ := hl
  unfold maxLen at v2
  have HV := Lib.hid v3
  have hz : (B.length : Int) ≤ 100 := by omega
  clear v3
  go_enter Tryd.func29, Tryd.ntmps29
  go_wp2
  go_loopw [3, 11] (fun vb u wr => ∃ i : Nat, u = .int .i64 i ∧ i ≤ B.length ∧ RowAt encP 68 4 wr (fun b => w.heap.size ≤ b) vb (allX (B.take i)) ∧ RowKit.Below w.heap.size w wr) (fun _ u _ => B.length - (intOf u).toNat)
  case atStart => exact ⟨0, rfl, Nat.zero_le _, row_empty w 68 4 _ (Nat.le_refl _), (by repeat (first | with_reducible exact Below.refl _ _ | with_reducible assumption | with_reducible apply Ba | with_reducible apply Bd | with_reducible apply Bn | with_reducible apply Bg | (with_reducible refine Bs ?_ (by first | (simp; done) | (simp; omega)) _) | (with_reducible refine Bt ?_ (by assumption)) | (with_reducible refine Bt ?_ (Gr.below (by assumption)))))⟩
  case round =>
    obtain ⟨i, rfl, hi, ho, hb⟩ := hrel
    have HO := Lib.hid ho
    have HB := Lib.hid hb
    clear ho hb
    by_cases hlt : i < B.length
    · obtain ⟨g, o, rfl, hg1, hcs⟩ := HV.out (by omega)
      obtain ⟨c1, c2, c3, c4, c5, c6⟩ := atBx hcs hlt
      replace c1 := Bc HB.out hg1 c1
      replace c2 := Bc HB.out hg1 c2
      replace c3 := Bc HB.out hg1 c3
      replace c4 := Bc HB.out hg1 c4
      replace c5 := Bc HB.out hg1 c5
      replace c6 := Bc HB.out hg1 c6
      have HCS := Lib.hid (And.intro hg1 hcs)
      have HST : Hid (allX (B.take (i + 1)) = allX (B.take i) ++ rowP meetsX (fun b : Bxd => b.1) B[i]! (B.take i)) := Lib.hid (allP_take (f := meetsX) (hd := fun b : Bxd => b.1) B i hlt)
      have HS2 := Lib.hid (fun (j : Nat) (hj : j < B.length) => rowP_take (f := meetsX) (hd := fun b : Bxd => b.1) B[i]! B j hj)
      have HRL := Lib.hid (fun (j : Nat) => rowP_len (f := meetsX) (hd := fun b : Bxd => b.1) B[i]! (B.take j))
      have hbl : (allX (B.take i)).length ≤ 10000 := allX_len (by have := List.length_take_le' i B; omega)
      generalize B[i]! = x at *
      obtain ⟨⟨x1, x2⟩, x3, x4, x5, x6⟩ := x
      dsimp only at c1 c2 c3 c4 c5 c6
      clear hcs
      obtain ⟨wo, rfl⟩ : ∃ wo, wo = wr := ⟨_, rfl⟩
      have bA := Ba (Below.refl _ wo) (.cells #[.int .i64 x1, .int .i64 x2, .int .i64 x3, .int .i64 x4, .int .i64 x5, .int .i64 x6] 64)
      have HZ : Hid (RowAt encP 68 4 (wo.alloc (.cells #[.int .i64 x1, .int .i64 x2, .int .i64 x3, .int .i64 x4, .int .i64 x5, .int .i64 x6] 64)) (fun b => w.heap.size ≤ b ∧ b ≠ wo.heap.size) u3 (allX (B.take i) ++ rowP meetsX (fun b : Bxd => b.1) ((x1, x2), (x3, x4, x5, x6)) (B.take 0))) := Lib.hid (by
        rw [show rowP meetsX (fun b : Bxd => b.1) ((x1, x2), (x3, x4, x5, x6)) (B.take 0) = [] from rfl, List.append_nil]
        exact RowAt.below ⟨HO.out.1, fun b hb => ⟨HO.out.2 b hb, Nat.ne_of_lt (row_lt HO.out.1 hb)⟩⟩ bA)
      have HD := Lib.hid (cells6 (heap_alloc_new wo (.cells #[.int .i64 x1, .int .i64 x2, .int .i64 x3, .int .i64 x4, .int .i64 x5, .int .i64 x6] 64)))
      have HBz := Lib.hid (Bt HB.out bA)
      have hwz : wo.heap.size < (wo.alloc (.cells #[.int .i64 x1, .int .i64 x2, .int .i64 x3, .int .i64 x4, .int .i64 x5, .int .i64 x6] 64)).heap.size := by simp
      clear bA
      go_wp2
      go_loopw [3, 20] (fun vb u wr => ∃ j : Nat, u = .int .i64 j ∧ j ≤ i ∧ RowAt encP 68 4 wr (fun b => w.heap.size ≤ b ∧ b ≠ wo.heap.size) vb (allX (B.take i) ++ rowP meetsX (fun b : Bxd => b.1) ((x1, x2), (x3, x4, x5, x6)) (B.take j)) ∧ Tch (fun b => w.heap.size ≤ b ∧ b ≠ wo.heap.size) (wo.alloc (.cells #[.int .i64 x1, .int .i64 x2, .int .i64 x3, .int .i64 x4, .int .i64 x5, .int .i64 x6] 64)) wr) (fun _ u _ => i - (intOf u).toNat)
      case atStart => exact ⟨0, rfl, Nat.zero_le _, HZ.out, Tch.refl _ _⟩
      case round =>
        clear HZ
        obtain ⟨j, rfl, hj, ho, ht⟩ := hrel
        have HO2 := Lib.hid ho
        have HT := Lib.hid ht
        have hszr := ht.size
        have HBr : Hid (RowKit.Below w.heap.size w wr) := Lib.hid (HBz.out.trans (Tch.below ht (fun b e => e.1) HBz.out.size))
        clear ho ht
        by_cases hjt : j < i
        · obtain ⟨f1, f2, f3, f4, f5, f6⟩ := atBx HCS.out.2 (show j < B.length by omega)
          replace f1 := Bc HBr.out HCS.out.1 f1
          replace f2 := Bc HBr.out HCS.out.1 f2
          replace f3 := Bc HBr.out HCS.out.1 f3
          replace f4 := Bc HBr.out HCS.out.1 f4
          replace f5 := Bc HBr.out HCS.out.1 f5
          replace f6 := Bc HBr.out HCS.out.1 f6
          have hn : ¬ (w.heap.size ≤ wo.heap.size ∧ wo.heap.size ≠ wo.heap.size) := fun e => e.2 rfl
          have d1 := HT.out.cell hwz hn HD.out.1
          have d2 := HT.out.cell hwz hn HD.out.2.1
          have d3 := HT.out.cell hwz hn HD.out.2.2.1
          have d4 := HT.out.cell hwz hn HD.out.2.2.2.1
          have d5 := HT.out.cell hwz hn HD.out.2.2.2.2.1
          have d6 := HT.out.cell hwz hn HD.out.2.2.2.2.2
          have hlo : wo.heap.size < wr.heap.size := Nat.lt_of_lt_of_le hwz hszr
          have hst := HS2.out j (by omega)
          have hrl := HRL.out j
          have htk : (B.take j).length ≤ 100 := by have := List.length_take_le' j B; omega
          generalize B[j]! = y at *
          obtain ⟨⟨y1, y2⟩, y3, y4, y5, y6⟩ := y
          dsimp only at f1 f2 f3 f4 f5 f6
          have HRM := Lib.hid (fun w' => rmeets_any x3 x4 x5 x6 y3 y4 y5 y6 w')
          have hmx := rmeets_meetsX ((x1, x2), (x3, x4, x5, x6)) ((y1, y2), (y3, y4, y5, y6))
          dsimp only at hmx
          rw [hmx] at HRM
          obtain ⟨q, hq⟩ : ∃ q, q = meetsX ((x1, x2), (x3, x4, x5, x6)) ((y1, y2), (y3, y4, y5, y6)) := ⟨_, rfl⟩
          rw [← hq] at HRM hst
          have HST2 := Lib.hid hst
          have bC := Ba (Below.refl _ wr) (.cells #[.int .i64 y1, .int .i64 y2, .int .i64 y3, .int .i64 y4, .int .i64 y5, .int .i64 y6] 64)
          have HO3 := Lib.hid (RowAt.below HO2.out bC)
          have HT3 := Lib.hid (HT.out.more (Tch.of bC))
          have HDC := Lib.hid (cells6 (heap_alloc_new wr (.cells #[.int .i64 y1, .int .i64 y2, .int .i64 y3, .int .i64 y4, .int .i64 y5, .int .i64 y6] 64)))
          have hwc : wr.heap.size < (wr.alloc (.cells #[.int .i64 y1, .int .i64 y2, .int .i64 y3, .int .i64 y4, .int .i64 y5, .int .i64 y6] 64)).heap.size := by simp
          have E1 := Lib.hid (And.intro (Bc bC hlo d1) (And.intro (Bc bC hlo d2) (Bl bC hlo)))
          clear hst hq hmx bC HO2 HT
          go_wp2_with fail
          refine (HRM.out _).mono ?_
          rintro e w5 ⟨rfl, hb5⟩
          have HO5 := Lib.hid (RowAt.below HO3.out hb5)
          have HT5 := Lib.hid (HT3.out.more (Tch.of hb5))
          have a1 := Bc hb5 E1.out.2.2 E1.out.1
          have a2 := Bc hb5 E1.out.2.2 E1.out.2.1
          have b1 := Bc hb5 hwc HDC.out.1
          have b2 := Bc hb5 hwc HDC.out.2.1
          have hs5 := hb5.size
          clear hb5 d1 d2 d3 d4 d5 d6 f1 f2 f3 f4 f5 f6 HO3 HT3 E1 HDC
          cases q with
          | false =>
            have HST3 := HST2.out
            simp only [Bool.false_eq_true, if_false, List.append_nil] at HST3
            have HST4 := Lib.hid HST3
            clear HST3 HST2
            go_wp2
            go_roundw
            case measure => simp only [intOf]; omega
            case rel => exact ⟨j + 1, by go_num, by omega, by rw [HST4.out]; exact HO5.out, HT5.out⟩
          | true =>
            have HST3 := HST2.out
            simp only [if_true] at HST3
            have HST4 := Lib.hid HST3
            have bX := Ba (Below.refl _ w5) (.cells #[.int .i64 x1, .int .i64 x2, .int .i64 y1, .int .i64 y2] 68)
            have HO6 := Lib.hid (RowAt.below HO5.out bX)
            have HT6 := Lib.hid (HT5.out.more (Tch.of bX))
            have L5 := Lib.hid (sl_lit (enc := encP) (w := w5) (cs := #[.int .i64 x1, .int .i64 x2, .int .i64 y1, .int .i64 y2]) (t := 68) (b := w5.heap.size) [((x1, x2), (y1, y2))] rfl rfl (by unfold maxLen; simp))
            have hzw : wo.heap.size < (w5.alloc (.cells #[.int .i64 x1, .int .i64 x2, .int .i64 y1, .int .i64 y2] 68)).heap.size := by have := bX.size; omega
            have hww : w.heap.size ≤ (w5.alloc (.cells #[.int .i64 x1, .int .i64 x2, .int .i64 y1, .int .i64 y2] 68)).heap.size := by have := HBr.out.size; have := bX.size; omega
            clear HST3 HST2 bX HO5 HT5
            go_wp2_with (at_builtin; refine wpl_app2 apP rfl _ _ rfl 0 (by rfl) (by rfl) HO6.out.1 rfl L5.out (by simp; omega) (Nat.zero_le _) ?_; intro v7 w7 hown7 hgrow7 hat7 hnil7; have R7 := Lib.hid (row_grown HO6.out.2 hown7 hgrow7 hat7); clear hown7 hgrow7 hat7 hnil7)
            go_roundw
            case measure => simp only [intOf]; omega
            case rel => exact ⟨j + 1, by go_num, by omega, by rw [HST4.out, ← List.append_assoc]; exact RowAt.mono R7.out.1 (fun b e => e.elim id (fun e => ⟨by have := e.1; omega, by have := e.1; omega⟩)), HT6.out.more R7.out.2⟩
        · have hjn : j = i := by omega
          subst hjn
          have HO3 := Lib.hid HO2.out
          rw [← HST.out] at HO3
          clear hjt HO2
          go_wp2
          go_roundw
          case measure => simp only [intOf]; omega
          case rel => exact ⟨j + 1, by go_num, by omega, HO3.out.mono (fun b e => e.1), HBr.out⟩
    · have hin : i = B.length := by omega
      subst hin
      have HO3 := Lib.hid HO.out
      rw [List.take_length] at HO3
      have RP2 := Lib.hid (RP.out _ _ (RowAt.sl lenP HO3.out))
      clear hlt HO
      go_wp2_with fail
      refine RP2.out.mono ?_
      rintro e w5 ⟨v5, rfl, ho5, hb5⟩
      go_wp2
      go_ret
      exact ⟨_, rfl, row_mono ho5 HB.out.size, Bt HB.out hb5⟩
end Go.Proofs.YtbodefigeiaodaaDoor
