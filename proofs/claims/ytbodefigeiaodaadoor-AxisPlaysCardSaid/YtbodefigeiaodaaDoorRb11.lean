/-
  The reference's boxes and spans: DropBox, Drop.
-/
import Derived.Test.YtbodefigeiaodaaDoorRw11
namespace Go.Proofs.YtbodefigeiaodaaDoor
set_option linter.unusedSimpArgs false
set_option linter.unusedVariables false
open Go.RowKit Go.Sort Go.Lib Go.Shelf

set_option maxHeartbeats 2000000 in
set_option maxRecDepth 100000 in
theorem dropB_call (B : List Bxd) (v : Value) (a b : Int) (w : World) (hl : Sl encBx w v B) (hn : B.length ≤ 100) :
    Calls Tryd.prog 27 #[v, .agg #[.int .i64 a, .int .i64 b]] w fun e w' => ∃ v', e = .returned v' ∧ w'.ownsRow w.heap.size 64 6 v' (woB B (a, b)).length (flat encBx (woB B (a, b))) ∧ RowKit.Below w.heap.size w w' := by
  obtain ⟨p0, c0, rfl, v1, v2, v3⟩ := hl
  unfold maxLen at v2
  have HV := Lib.hid v3
  have ne2 := neH_run
  have gd2 := gdH_run
  have hz : (B.length : Int) ≤ 100 := by omega
  clear v3
  obtain ⟨w1, hw1⟩ : ∃ w1, w1 = w.alloc (.cells #[.int .i64 a, .int .i64 b] 28) := ⟨_, rfl⟩
  have H1 : Hid ((w1.cell? ⟨w.heap.size, 0, none⟩ = some (.int .i64 a) ∧ w1.cell? ⟨w.heap.size, 1, none⟩ = some (.int .i64 b)) ∧ w.heap.size < w1.heap.size ∧ RowKit.Below w.heap.size w w1) := by rw [hw1]; exact ⟨⟨by simp, by simp⟩, by simp, Ba (Below.refl _ _) _⟩
  have HW := Lib.hid hw1
  clear hw1
  go_enter Tryd.func27, Tryd.ntmps27
  go_wp2
  go_loopw [5, 11] (fun v i wr => ∃ k : Nat, k ≤ B.length ∧ i = .int .i64 k ∧ RowKit.Below w1.heap.size w1 wr ∧ wr.ownsRow w1.heap.size 64 6 v (woB (B.take k) (a, b)).length (flat encBx (woB (B.take k) (a, b)))) (fun _ i _ => B.length - (intOf i).toNat)
  case atStart => rw [← HW.out, ← show w1.heap.size = w.heap.size + 1 by rw [HW.out]; simp]; exact ⟨0, Nat.zero_le _, rfl, Ba (Below.refl _ _) _, World.ownsRow_made w1 #[] 0 (Nat.le_refl _) (Nat.zero_le _) (by simp)⟩
  case round =>
    obtain ⟨k, hk, rfl, hb, ho⟩ := hrel
    have HO := Lib.hid ho
    have HB := Lib.hid hb
    clear ho hb
    by_cases hkn : k < B.length
    · obtain ⟨g0, o0, rfl, hg1, hg2⟩ := HV.out (by omega)
      obtain ⟨c1, c2, c3, c4, c5, c6⟩ := atBx hg2 hkn
      replace c1 := Bc (Bt H1.out.2.2 HB.out) hg1 c1
      replace c2 := Bc (Bt H1.out.2.2 HB.out) hg1 c2
      replace c3 := Bc (Bt H1.out.2.2 HB.out) hg1 c3
      replace c4 := Bc (Bt H1.out.2.2 HB.out) hg1 c4
      replace c5 := Bc (Bt H1.out.2.2 HB.out) hg1 c5
      replace c6 := Bc (Bt H1.out.2.2 HB.out) hg1 c6
      have a1 := Bc HB.out H1.out.2.1 H1.out.1.1
      have a2 := Bc HB.out H1.out.2.1 H1.out.1.2
      have hal : w.heap.size < wr.heap.size := Bl HB.out H1.out.2.1
      have et := woB_take hkn (a, b)
      have hlt : (woB (B.take k) (a, b)).length ≤ 100 := by
        have h1 : (woB (B.take k) (a, b)).length ≤ (B.take k).length := List.length_filter_le _ _
        have h2 : (B.take k).length ≤ B.length := List.length_take_le' _ _
        omega
      generalize B[k]! = x at *
      obtain ⟨⟨x1, x2⟩, x3, x4, x5, x6⟩ := x
      dsimp only at c1 c2 c3 c4 c5 c6 et
      clear hg2
      by_cases he : ((x1, x2) : Hd) = (a, b)
      · rw [if_pos he, List.append_nil] at et
        have HO2 := Lib.hid (row_below HO.out (Ba (Below.refl _ wr) (.cells #[.int .i64 x1, .int .i64 x2, .int .i64 x3, .int .i64 x4, .int .i64 x5, .int .i64 x6] 64)))
        have HB2 := Lib.hid (Bt HB.out (Ba (Below.refl _ wr) (.cells #[.int .i64 x1, .int .i64 x2, .int .i64 x3, .int .i64 x4, .int .i64 x5, .int .i64 x6] 64)))
        rw [← et] at HO2
        obtain ⟨rfl, rfl⟩ : x1 = a ∧ x2 = b := by simpa using he
        clear he et hlt
        go_wp2
        go_roundw
        case measure => simp only [intOf]; omega
        case rel => exact ⟨k + 1, by omega, by go_num, HB2.out, HO2.out⟩
      · rw [if_neg he] at et
        have e0 := and_ne he
        have bX := Ba (Ba (Below.refl _ wr) (.cells #[.int .i64 x1, .int .i64 x2, .int .i64 x3, .int .i64 x4, .int .i64 x5, .int .i64 x6] 64)) (.cells #[.int .i64 x1, .int .i64 x2, .int .i64 x3, .int .i64 x4, .int .i64 x5, .int .i64 x6] 64)
        have O5 := Lib.hid (row_below HO.out bX)
        have B5 := Lib.hid (Bt HB.out bX)
        have L5 := Lib.hid (sl_lit (enc := encBx) (w := wr.alloc (.cells #[.int .i64 x1, .int .i64 x2, .int .i64 x3, .int .i64 x4, .int .i64 x5, .int .i64 x6] 64)) (cs := #[.int .i64 x1, .int .i64 x2, .int .i64 x3, .int .i64 x4, .int .i64 x5, .int .i64 x6]) (t := 64) (b := wr.heap.size + 1) [((x1, x2), x3, x4, x5, x6)] (by simp) rfl (by unfold maxLen; simp))
        have ET := Lib.hid et
        clear he et bX
        go_wp2_with (at_builtin; refine wpl_app2 apB rfl _ _ rfl w1.heap.size (by rfl) (by rfl) O5.out rfl L5.out (by simp; omega) B5.out.size ?_; intro v7 w7 hown7 hgrow7 hat7 hnil7; have O7 := Lib.hid hown7; have B7 := Lib.hid (grownB B5.out O5.out hgrow7); clear hown7 hgrow7 hat7 hnil7)
        go_roundw
        case measure => simp only [intOf]; omega
        case rel => exact ⟨k + 1, by omega, by go_num, B7.out, by rw [ET.out]; exact O7.out⟩
    · have hin : k = B.length := by omega
      subst hin
      have HO2 := Lib.hid HO.out
      rw [List.take_length] at HO2
      go_wp2
      go_ret
      exact ⟨_, rfl, row_mono HO2.out (Nat.le_of_lt H1.out.2.1), Bt H1.out.2.2 HB.out⟩

set_option maxHeartbeats 2000000 in
set_option maxRecDepth 100000 in
theorem dropSp_call (B : List Spn) (v : Value) (a b : Int) (w : World) (hl : Sl encSp w v B) (hn : B.length ≤ 100) :
    Calls Tryd.prog 14 #[v, .agg #[.int .i64 a, .int .i64 b]] w fun e w' => ∃ v', e = .returned v' ∧ w'.ownsRow w.heap.size 34 4 v' (without B (a, b)).length (flat encSp (without B (a, b))) ∧ RowKit.Below w.heap.size w w' := by
  obtain ⟨p0, c0, rfl, v1, v2, v3⟩ := hl
  unfold maxLen at v2
  have HV := Lib.hid v3
  have ne2 := neH_run
  have gd2 := gdH_run
  have hz : (B.length : Int) ≤ 100 := by omega
  clear v3
  obtain ⟨w1, hw1⟩ : ∃ w1, w1 = w.alloc (.cells #[.int .i64 a, .int .i64 b] 28) := ⟨_, rfl⟩
  have H1 : Hid ((w1.cell? ⟨w.heap.size, 0, none⟩ = some (.int .i64 a) ∧ w1.cell? ⟨w.heap.size, 1, none⟩ = some (.int .i64 b)) ∧ w.heap.size < w1.heap.size ∧ RowKit.Below w.heap.size w w1) := by rw [hw1]; exact ⟨⟨by simp, by simp⟩, by simp, Ba (Below.refl _ _) _⟩
  have HW := Lib.hid hw1
  clear hw1
  go_enter Tryd.func14, Tryd.ntmps14
  go_wp2
  go_loopw [5, 11] (fun v i wr => ∃ k : Nat, k ≤ B.length ∧ i = .int .i64 k ∧ RowKit.Below w1.heap.size w1 wr ∧ wr.ownsRow w1.heap.size 34 4 v (without (B.take k) (a, b)).length (flat encSp (without (B.take k) (a, b)))) (fun _ i _ => B.length - (intOf i).toNat)
  case atStart => rw [← HW.out, ← show w1.heap.size = w.heap.size + 1 by rw [HW.out]; simp]; exact ⟨0, Nat.zero_le _, rfl, Ba (Below.refl _ _) _, World.ownsRow_made w1 #[] 0 (Nat.le_refl _) (Nat.zero_le _) (by simp)⟩
  case round =>
    obtain ⟨k, hk, rfl, hb, ho⟩ := hrel
    have HO := Lib.hid ho
    have HB := Lib.hid hb
    clear ho hb
    by_cases hkn : k < B.length
    · obtain ⟨g0, o0, rfl, hg1, hg2⟩ := HV.out (by omega)
      obtain ⟨c1, c2, c3, c4⟩ := atSp hg2 hkn
      replace c1 := Bc (Bt H1.out.2.2 HB.out) hg1 c1
      replace c2 := Bc (Bt H1.out.2.2 HB.out) hg1 c2
      replace c3 := Bc (Bt H1.out.2.2 HB.out) hg1 c3
      replace c4 := Bc (Bt H1.out.2.2 HB.out) hg1 c4
      have a1 := Bc HB.out H1.out.2.1 H1.out.1.1
      have a2 := Bc HB.out H1.out.2.1 H1.out.1.2
      have hal : w.heap.size < wr.heap.size := Bl HB.out H1.out.2.1
      have et := without_take hkn (a, b)
      have hlt : (without (B.take k) (a, b)).length ≤ 100 := by
        have h1 : (without (B.take k) (a, b)).length ≤ (B.take k).length := List.length_filter_le _ _
        have h2 : (B.take k).length ≤ B.length := List.length_take_le' _ _
        omega
      generalize B[k]! = x at *
      obtain ⟨⟨x1, x2⟩, x3, x4⟩ := x
      dsimp only at c1 c2 c3 c4 et
      clear hg2
      by_cases he : ((x1, x2) : Hd) = (a, b)
      · rw [if_pos he, List.append_nil] at et
        have HO2 := Lib.hid (row_below HO.out (Ba (Below.refl _ wr) (.cells #[.int .i64 x1, .int .i64 x2, .int .i64 x3, .int .i64 x4] 34)))
        have HB2 := Lib.hid (Bt HB.out (Ba (Below.refl _ wr) (.cells #[.int .i64 x1, .int .i64 x2, .int .i64 x3, .int .i64 x4] 34)))
        rw [← et] at HO2
        obtain ⟨rfl, rfl⟩ : x1 = a ∧ x2 = b := by simpa using he
        clear he et hlt
        go_wp2
        go_roundw
        case measure => simp only [intOf]; omega
        case rel => exact ⟨k + 1, by omega, by go_num, HB2.out, HO2.out⟩
      · rw [if_neg he] at et
        have e0 := and_ne he
        have bX := Ba (Ba (Below.refl _ wr) (.cells #[.int .i64 x1, .int .i64 x2, .int .i64 x3, .int .i64 x4] 34)) (.cells #[.int .i64 x1, .int .i64 x2, .int .i64 x3, .int .i64 x4] 34)
        have O5 := Lib.hid (row_below HO.out bX)
        have B5 := Lib.hid (Bt HB.out bX)
        have L5 := Lib.hid (sl_lit (enc := encSp) (w := wr.alloc (.cells #[.int .i64 x1, .int .i64 x2, .int .i64 x3, .int .i64 x4] 34)) (cs := #[.int .i64 x1, .int .i64 x2, .int .i64 x3, .int .i64 x4]) (t := 34) (b := wr.heap.size + 1) [((x1, x2), x3, x4)] (by simp) rfl (by unfold maxLen; simp))
        have ET := Lib.hid et
        clear he et bX
        go_wp2_with (at_builtin; refine wpl_app2 apS rfl _ _ rfl w1.heap.size (by rfl) (by rfl) O5.out rfl L5.out (by simp; omega) B5.out.size ?_; intro v7 w7 hown7 hgrow7 hat7 hnil7; have O7 := Lib.hid hown7; have B7 := Lib.hid (grownB B5.out O5.out hgrow7); clear hown7 hgrow7 hat7 hnil7)
        go_roundw
        case measure => simp only [intOf]; omega
        case rel => exact ⟨k + 1, by omega, by go_num, B7.out, by rw [ET.out]; exact O7.out⟩
    · have hin : k = B.length := by omega
      subst hin
      have HO2 := Lib.hid HO.out
      rw [List.take_length] at HO2
      go_wp2
      go_ret
      exact ⟨_, rfl, row_mono HO2.out (Nat.le_of_lt H1.out.2.1), Bt H1.out.2.2 HB.out⟩
end Go.Proofs.YtbodefigeiaodaaDoor
