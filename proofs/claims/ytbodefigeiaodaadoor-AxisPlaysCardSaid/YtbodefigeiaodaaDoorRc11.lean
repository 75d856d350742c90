/-
  The reference: PutBox, Put, Gone.
-/
import Derived.Test.YtbodefigeiaodaaDoorRb11
namespace Go.Proofs.YtbodefigeiaodaaDoor
set_option linter.unusedSimpArgs false
set_option linter.unusedVariables false
open Go.RowKit Go.Sort Go.Lib Go.Shelf

theorem cells4 {w : World} {b : Nat} {t : TypeId} {a1 a2 a3 a4 : Value} (h : w.heap[b]? = some (.cells #[a1, a2, a3, a4] t (0, 0))) :
    w.cell? ⟨b, 0, none⟩ = some a1 ∧ w.cell? ⟨b, 1, none⟩ = some a2 ∧ w.cell? ⟨b, 2, none⟩ = some a3 ∧ w.cell? ⟨b, 3, none⟩ = some a4 := by
  refine ⟨?_, ?_, ?_, ?_⟩ <;> simp [World.cell?, h]
theorem cells6 {w : World} {b : Nat} {t : TypeId} {a1 a2 a3 a4 a5 a6 : Value} (h : w.heap[b]? = some (.cells #[a1, a2, a3, a4, a5, a6] t (0, 0))) :
    w.cell? ⟨b, 0, none⟩ = some a1 ∧ w.cell? ⟨b, 1, none⟩ = some a2 ∧ w.cell? ⟨b, 2, none⟩ = some a3 ∧ w.cell? ⟨b, 3, none⟩ = some a4 ∧ w.cell? ⟨b, 4, none⟩ = some a5 ∧ w.cell? ⟨b, 5, none⟩ = some a6 := by
  refine ⟨?_, ?_, ?_, ?_, ?_, ?_⟩ <;> simp [World.cell?, h]
theorem gone_call (a b : Nat) (w : World) : Calls Tryd.prog 16 #[.int .i64 a, .int .i64 b] w fun e w' => e = .returned (.int .i64 (if a = b then 3 else 0)) ∧ w = w' := by
  by_cases h : a = b
  · subst h
    go_enter Tryd.func16, Tryd.ntmps16
    go_wp2
    go_ret
    exact ⟨by simp, rfl⟩
  · have hz : ¬ (a : Int) = (b : Int) := by omega
    go_enter Tryd.func16, Tryd.ntmps16
    go_wp2
    go_ret
    exact ⟨by simp [h], rfl⟩

set_option maxHeartbeats 2000000 in
set_option maxRecDepth 100000 in
theorem putB_call (B : List Bxd) (v : Value) (x1 x2 x3 x4 x5 x6 : Int) (w : World) (hl : Sl encBx w v B) (hn : B.length ≤ 100) :
    Calls Tryd.prog 26 #[v, .agg #[.int .i64 x1, .int .i64 x2, .int .i64 x3, .int .i64 x4, .int .i64 x5, .int .i64 x6]] w fun e w' => ∃ v', e = .returned v' ∧ w'.ownsRow w.heap.size 64 6 v' (woB B (x1, x2) ++ [((x1, x2), (x3, x4, x5, x6))]).length (flat encBx (woB B (x1, x2) ++ [((x1, x2), (x3, x4, x5, x6))])) ∧ RowKit.Below w.heap.size w w' := by
  have DC := Lib.hid (fun w' (hb : RowKit.Below w.heap.size w w') => dropB_call B v x1 x2 w' (hl.below hb) hn)
  have hz : (woB B (x1, x2)).length ≤ 100 := by
    have h1 : (woB B (x1, x2)).length ≤ B.length := List.length_filter_le _ _
    omega
  obtain ⟨p0, c0, rfl, v1, v2, v3⟩ := hl
  clear v3
  go_enter Tryd.func26, Tryd.ntmps26
  go_wp2_with fail
  refine (DC.out _ (by repeat (first | with_reducible exact Below.refl _ _ | with_reducible assumption | with_reducible apply Ba | with_reducible apply Bd | with_reducible apply Bn | with_reducible apply Bg | (with_reducible refine Bs ?_ (by first | (simp; done) | (simp; omega)) _) | (with_reducible refine Bt ?_ (by assumption)) | (with_reducible refine Bt ?_ (Gr.below (by assumption)))))).mono ?_
  rintro e w1 ⟨r1, rfl, ho, hb1⟩
  have HO := Lib.hid (row_mono (base' := w.heap.size) ho (by simp))
  have HB := Lib.hid (Bt (Ba (Below.refl _ w) (.cells #[.int .i64 x1, .int .i64 x2, .int .i64 x3, .int .i64 x4, .int .i64 x5, .int .i64 x6] 64)) hb1)
  obtain ⟨q1, q2, rfl, _, _, _⟩ := row_val ho
  have hk := blk_below (heap_alloc_new w (.cells #[.int .i64 x1, .int .i64 x2, .int .i64 x3, .int .i64 x4, .int .i64 x5, .int .i64 x6] 64)) hb1
  have O5 := Lib.hid (row_below HO.out (Ba (Below.refl _ w1) (.cells #[.int .i64 x1, .int .i64 x2, .int .i64 x3, .int .i64 x4, .int .i64 x5, .int .i64 x6] 64)))
  have B5 := Lib.hid (Bt HB.out (Ba (Below.refl _ w1) (.cells #[.int .i64 x1, .int .i64 x2, .int .i64 x3, .int .i64 x4, .int .i64 x5, .int .i64 x6] 64)))
  have L5 := Lib.hid (sl_lit (enc := encBx) (w := w1) (cs := #[.int .i64 x1, .int .i64 x2, .int .i64 x3, .int .i64 x4, .int .i64 x5, .int .i64 x6]) (t := 64) (b := w1.heap.size) [((x1, x2), (x3, x4, x5, x6))] (by simp) rfl (by unfold maxLen; simp))
  obtain ⟨d1, d2, d3, d4, d5, d6⟩ := cells6 hk
  clear ho hb1 hk DC
  go_wp2_with (at_builtin; refine wpl_app2 apB rfl _ _ rfl w.heap.size (by rfl) (by rfl) O5.out rfl L5.out (by simp; omega) B5.out.size ?_; intro v7 w7 hown7 hgrow7 hat7 hnil7; have O7 := Lib.hid hown7; have B7 := Lib.hid (grownB B5.out O5.out hgrow7); clear hown7 hgrow7 hat7 hnil7)
  go_ret
  exact ⟨_, rfl, O7.out, B7.out⟩

set_option maxHeartbeats 2000000 in
set_option maxRecDepth 100000 in
theorem putSp_call (B : List Spn) (v : Value) (x1 x2 x3 x4 : Int) (w : World) (hl : Sl encSp w v B) (hn : B.length ≤ 100) :
    Calls Tryd.prog 13 #[v, .agg #[.int .i64 x1, .int .i64 x2, .int .i64 x3, .int .i64 x4]] w fun e w' => ∃ v', e = .returned v' ∧ w'.ownsRow w.heap.size 34 4 v' (without B (x1, x2) ++ [((x1, x2), (x3, x4))]).length (flat encSp (without B (x1, x2) ++ [((x1, x2), (x3, x4))])) ∧ RowKit.Below w.heap.size w w' := by
  have DC := Lib.hid (fun w' (hb : RowKit.Below w.heap.size w w') => dropSp_call B v x1 x2 w' (hl.below hb) hn)
  have hz : (without B (x1, x2)).length ≤ 100 := by
    have h1 : (without B (x1, x2)).length ≤ B.length := List.length_filter_le _ _
    omega
  obtain ⟨p0, c0, rfl, v1, v2, v3⟩ := hl
  clear v3
  go_enter Tryd.func13, Tryd.ntmps13
  go_wp2_with fail
  refine (DC.out _ (by repeat (first | with_reducible exact Below.refl _ _ | with_reducible assumption | with_reducible apply Ba | with_reducible apply Bd | with_reducible apply Bn | with_reducible apply Bg | (with_reducible refine Bs ?_ (by first | (simp; done) | (simp; omega)) _) | (with_reducible refine Bt ?_ (by assumption)) | (with_reducible refine Bt ?_ (Gr.below (by assumption)))))).mono ?_
  rintro e w1 ⟨r1, rfl, ho, hb1⟩
  have HO := Lib.hid (row_mono (base' := w.heap.size) ho (by simp))
  have HB := Lib.hid (Bt (Ba (Below.refl _ w) (.cells #[.int .i64 x1, .int .i64 x2, .int .i64 x3, .int .i64 x4] 34)) hb1)
  obtain ⟨q1, q2, rfl, _, _, _⟩ := row_val ho
  have hk := blk_below (heap_alloc_new w (.cells #[.int .i64 x1, .int .i64 x2, .int .i64 x3, .int .i64 x4] 34)) hb1
  have O5 := Lib.hid (row_below HO.out (Ba (Below.refl _ w1) (.cells #[.int .i64 x1, .int .i64 x2, .int .i64 x3, .int .i64 x4] 34)))
  have B5 := Lib.hid (Bt HB.out (Ba (Below.refl _ w1) (.cells #[.int .i64 x1, .int .i64 x2, .int .i64 x3, .int .i64 x4] 34)))
  have L5 := Lib.hid (sl_lit (enc := encSp) (w := w1) (cs := #[.int .i64 x1, .int .i64 x2, .int .i64 x3, .int .i64 x4]) (t := 34) (b := w1.heap.size) [((x1, x2), (x3, x4))] (by simp) rfl (by unfold maxLen; simp))
  obtain ⟨d1, d2, d3, d4⟩ := cells4 hk
  clear ho hb1 hk DC
  go_wp2_with (at_builtin; refine wpl_app2 apS rfl _ _ rfl w.heap.size (by rfl) (by rfl) O5.out rfl L5.out (by simp; omega) B5.out.size ?_; intro v7 w7 hown7 hgrow7 hat7 hnil7; have O7 := Lib.hid hown7; have B7 := Lib.hid (grownB B5.out O5.out hgrow7); clear hown7 hgrow7 hat7 hnil7)
  go_ret
  exact ⟨_, rfl, O7.out, B7.out⟩
end Go.Proofs.YtbodefigeiaodaaDoor
