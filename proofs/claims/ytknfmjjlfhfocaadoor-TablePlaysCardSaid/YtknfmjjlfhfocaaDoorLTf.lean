/-
  TableFull, walked.
-/
import Derived.Test.YtknfmjjlfhfocaaDoorTk
import Derived.Test.YtknfmjjlfhfocaaDoorErrK
namespace Go.Proofs.YtknfmjjlfhfocaaDoor
set_option linter.unusedSimpArgs false
set_option linter.unusedVariables false
open Go.RowKit Go.Sort Go.Lib Go.Shelf

theorem er7_of {w : World} {A : Nat → Addr} (h : Errs w A) : Er7 w A :=
  ⟨⟨h.cell 0 (by omega), h.cell 4 (by omega)⟩, h.cell 1 (by omega), h.cell 6 (by omega)⟩
section
variable {A : Nat → Addr}
set_option maxHeartbeats 4000000 in
set_option maxRecDepth 100000 in
theorem tableFull_walk (x : Int) (w : World) (hE : Errs w A) (hT : TabW w) : Calls Tryd.prog 5 #[.int .i64 x] w fun e w' => e = .returned (.bool true) ∧ RowKit.Below w.heap.size w w' := by
  have r0 : rightB [] = true := by decide
  have m0 : maskV [] = 0 := by decide
  have HE := Lib.hid hE
  have HT := Lib.hid hT
  have C0 := Lib.hid (alive_any w (er7_of hE) hT)
  clear hE hT
  go_enter Tryd.func5, Tryd.ntmps5
  go_wp2_with fail
  refine C0.out.mono ?_
  rintro e w1 ⟨rfl, hb1⟩
  have B1 := Lib.hid hb1
  have C1 := Lib.hid (newX (N := NoN) (base := w.heap.size) (q := 0) (w := w1) (by decide) hb1.size (fun b e => e.elim) (HT.out.below hb1))
  clear hb1 C0
  obtain ⟨m, hm, he⟩ := idx_any x 20 (by omega) (by omega)
  rw [show ((20 : Nat) : Int) = 20 from rfl] at he
  go_wp2_with fail
  simp only [he]
  clear he
  refine C1.out.mono ?_
  rintro e w2 ⟨pt, rfl, hT2, hb2⟩
  have T2 := Lib.hid hT2
  have B2 := Lib.hid (Bt B1.out hb2)
  clear hT2 hb2 C1
  go_wp2
  go_loopw [26] (fun s26 wr => ∃ (i : Nat) (R : List En), s26 = .int .i64 i ∧ i ≤ 128 + m ∧ Hid (TabO NoN w.heap.size wr pt 0 R) ∧ R.length = min i 128 ∧ Hid (RowKit.Below w.heap.size w wr)) (fun i _ => 128 + m - (intOf i).toNat)
  case atStart => exact ⟨0, [], rfl, by omega, T2, by simp, B2⟩
  case round =>
    obtain ⟨i, R, rfl, hi, HTr, hR, HB⟩ := hrel
    by_cases hin : i < 128 + m
    · by_cases h128 : i < 128
      · have CA := Lib.hid (addX HTr.out i 1 [] (.slice none 0 0) (N' := fun _ => False) (SlN.nil none 0 (Nat.zero_le _)) (fun b e => e.elim) (by decide) r0 m0 (by omega) (er7_of (HE.out.below HB.out)))
        go_wp2_with fail
        refine CA.out.mono ?_
        rintro e w3 ⟨rfl, hT3, ht3⟩
        have T3 := Lib.hid hT3
        have B3 := Lib.hid (HB.out.trans (OffT.below ht3 HB.out.size))
        have CL := Lib.hid (TabO.read hT3 fun M h => tlen_call h)
        have el : (R ++ [(((i : Int), (1 : Int)), ([] : List Vl))]).length = i + 1 := by simp; omega
        rw [el] at CL
        have EL := Lib.hid el
        have hmin : min ((i : Int) + 1) 128 = (i : Int) + 1 := by omega
        clear hT3 ht3 CA el
        go_wp2_with fail
        refine CL.out.mono ?_
        rintro e w4 ⟨rfl, rfl⟩
        go_wp2
        go_roundw
        case measure => simp [intOf]; omega
        case rel => exact ⟨i + 1, _, by go_num, by omega, T3.out, by rw [EL.out]; omega, B3.out⟩
      · have CA := Lib.hid (TabO.read HTr.out fun M h => tadd_full h i 1 [] (.slice none 0 0) (Sl.nil none 0 (Nat.zero_le _)) (by decide) r0 m0 (by omega) (er7_of (HE.out.below HB.out)))
        go_wp2_with fail
        refine CA.out.mono ?_
        rintro e w3 ⟨rfl, hb3⟩
        have T3 := Lib.hid (HTr.out.below hb3)
        have B3 := Lib.hid (Bt HB.out hb3)
        have CN := Lib.hid (num_full (HE.out.below B3.out))
        clear hb3 CA
        go_wp2_with fail
        refine CN.out.mono ?_
        rintro e w4 ⟨rfl, hb4⟩
        have T4 := Lib.hid (T3.out.below hb4)
        have B4 := Lib.hid (Bt B3.out hb4)
        have CL := Lib.hid (TabO.read T4.out fun M h => tlen_call h)
        have hR2 : R.length = 128 := by omega
        rw [hR2] at CL
        have HR2 := Lib.hid hR2
        have hmin : min ((i : Int) + 1) 128 = 128 := by omega
        clear hb4 CN hR2
        go_wp2_with fail
        refine CL.out.mono ?_
        rintro e w5 ⟨rfl, rfl⟩
        go_wp2
        go_roundw
        case measure => simp [intOf]; omega
        case rel => exact ⟨i + 1, R, by go_num, by omega, T4.out, by rw [HR2.out]; omega, B4.out⟩
    · go_wp2
      go_ret
      exact ⟨rfl, HB.out⟩
end
end Go.Proofs.YtknfmjjlfhfocaaDoor
