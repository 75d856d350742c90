import Derived.Test.YtlnncnbahmgpfaaGreatDoorZ0
import Derived.Test.YtlnncnbahmgpfaaGreatDoorZ2

/-
  The reference's rows of boxes; DropBox, PutBox, Gone (of stage 11).
-/
namespace Go.Proofs.YtlnncnbahmgpfaaGreatDoor
set_option linter.unusedSimpArgs false
set_option linter.unusedVariables false
open Go.RowKit Go.Sort Go.Lib Go.Shelf

def encBx (b : Bxd) : List Value := [.int .i64 b.1.1, .int .i64 b.1.2, .int .i64 b.2.1, .int .i64 b.2.2.1, .int .i64 b.2.2.2.1, .int .i64 b.2.2.2.2]
theorem lenBx (b : Bxd) : (encBx b).length = 6 := rfl
theorem oneBx (b : Bxd) : ∀ v ∈ encBx b, v.oneCell' = true := fun v hv => by simp [encBx] at hv; rcases hv with rfl | rfl | rfl | rfl | rfl | rfl <;> rfl
theorem apB : Ap encBx 26 43 6 (.agg #[.int .i64 0, .int .i64 0, .int .i64 0, .int .i64 0, .int .i64 0, .int .i64 0]) 48 :=
  ⟨Tryz.underlying26, info_parts (by kernel_rfl), by decide, by decide, by decide, lenBx, oneBx⟩
theorem atBx {w : World} {l : List Bxd} {g o : Nat} (h : ∀ j u, (flat encBx l)[j]? = some u → w.cell? ⟨g, o + j, none⟩ = some u) {i : Nat} (hi : i < l.length) :
    w.cell? ⟨g, o + i * 6, none⟩ = some (.int .i64 l[i]!.1.1) ∧ w.cell? ⟨g, o + i * 6 + 1, none⟩ = some (.int .i64 l[i]!.1.2) ∧ w.cell? ⟨g, o + i * 6 + 2, none⟩ = some (.int .i64 l[i]!.2.1) ∧
    w.cell? ⟨g, o + i * 6 + 3, none⟩ = some (.int .i64 l[i]!.2.2.1) ∧ w.cell? ⟨g, o + i * 6 + 4, none⟩ = some (.int .i64 l[i]!.2.2.2.1) ∧ w.cell? ⟨g, o + i * 6 + 5, none⟩ = some (.int .i64 l[i]!.2.2.2.2) :=
  ⟨sl_at lenBx h hi 0 _ rfl, sl_at lenBx h hi 1 _ rfl, sl_at lenBx h hi 2 _ rfl, sl_at lenBx h hi 3 _ rfl, sl_at lenBx h hi 4 _ rfl, sl_at lenBx h hi 5 _ rfl⟩
theorem woB_take {B : List Bxd} {k : Nat} (hk : k < B.length) (h : Hd) : woB (B.take (k + 1)) h = woB (B.take k) h ++ (if B[k]!.1 = h then [] else [B[k]!]) := by
  unfold woB
  rw [List.take_succ_eq_append_getElem hk, List.filter_append, getElem!_pos B k hk]
  congr 1
  by_cases e : B[k].1 = h <;> simp [List.filter_cons, e]
set_option maxHeartbeats 2000000 in
set_option maxRecDepth 100000 in
theorem dropB_call (B : List Bxd) (v : Value) (a b : Int) (w : World) (hl : Sl encBx w v B) (hn : B.length ≤ 100) :
    Calls Tryz.prog 10 #[v, .agg #[.int .i64 a, .int .i64 b]] w fun e w' => ∃ v', e = .returned v' ∧ w'.ownsRow w.heap.size 43 6 v' (woB B (a, b)).length (flat encBx (woB B (a, b))) ∧ RowKit.Below w.heap.size w w' := by
  obtain ⟨p0, c0, rfl, v1, v2, v3⟩ := hl
  unfold maxLen at v2
  have HV := Lib.hid v3
  have ne2 := neH_run
  have gd2 := gdH_run
  have hz : (B.length : Int) ≤ 100 := by omega
  clear v3
  obtain ⟨w1, hw1⟩ : ∃ w1, w1 = w.alloc (.cells #[.int .i64 a, .int .i64 b] 28) := ⟨_, rfl⟩
  have H1 : Hid ((w1.cell? ⟨w.heap.size, 0, none⟩ = some (.int .i64 a) ∧ w1.cell? ⟨w.heap.size, 1, none⟩ = some (.int .i64 b)) ∧ w.heap.size < w1.heap.size ∧ RowKit.Below w.heap.size w w1) := by rw [hw1]; exact ⟨⟨by simp, by simp⟩, by simp, Ba (Below.refl _ _) _⟩
  have HW := Lib.hid hw1
  clear hw1
  go_enter Tryz.func10, Tryz.ntmps10
  go_wp2
  go_loopw [5, 11] (fun v i wr => ∃ k : Nat, k ≤ B.length ∧ i = .int .i64 k ∧ RowKit.Below w1.heap.size w1 wr ∧ wr.ownsRow w1.heap.size 43 6 v (woB (B.take k) (a, b)).length (flat encBx (woB (B.take k) (a, b)))) (fun _ i _ => B.length - (intOf i).toNat)
  case atStart => rw [← HW.out, ← show w1.heap.size = w.heap.size + 1 by rw [HW.out]; simp]; exact ⟨0, Nat.zero_le _, rfl, Ba (Below.refl _ _) _, World.ownsRow_made w1 #[] 0 (Nat.le_refl _) (Nat.zero_le _) (by simp)⟩
  case round =>
    obtain ⟨k, hk, rfl, hb, ho⟩ := hrel
    have HO := Lib.hid ho
    have HB := Lib.hid hb
    clear ho hb
    by_cases hkn : k < B.length
    · obtain ⟨g0, o0, rfl, hg1, hg2⟩ := HV.out (by omega)
      obtain ⟨c1, c2, c3, c4, c5, c6⟩ := atBx hg2 hkn
      replace c1 := Bc (Bt H1.out.2.2 HB.out) hg1 c1
      replace c2 := Bc (Bt H1.out.2.2 HB.out) hg1 c2
      replace c3 := Bc (Bt H1.out.2.2 HB.out) hg1 c3
      replace c4 := Bc (Bt H1.out.2.2 HB.out) hg1 c4
      replace c5 := Bc (Bt H1.out.2.2 HB.out) hg1 c5
      replace c6 := Bc (Bt H1.out.2.2 HB.out) hg1 c6
      have a1 := Bc HB.out H1.out.2.1 H1.out.1.1
      have a2 := Bc HB.out H1.out.2.1 H1.out.1.2
      have hal : w.heap.size < wr.heap.size := Bl HB.out H1.out.2.1
      have et := woB_take hkn (a, b)
      have hlt : (woB (B.take k) (a, b)).length ≤ 100 := by
        have h1 : (woB (B.take k) (a, b)).length ≤ (B.take k).length := List.length_filter_le _ _
        have h2 : (B.take k).length ≤ B.length := List.length_take_le' _ _
        omega
      generalize B[k]! = x at *
      obtain ⟨⟨x1, x2⟩, x3, x4, x5, x6⟩ := x
      dsimp only at c1 c2 c3 c4 c5 c6 et
      clear hg2
      by_cases he : ((x1, x2) : Hd) = (a, b)
      · rw [if_pos he, List.append_nil] at et
        have HO2 := Lib.hid (row_below HO.out (Ba (Below.refl _ wr) (.cells #[.int .i64 x1, .int .i64 x2, .int .i64 x3, .int .i64 x4, .int .i64 x5, .int .i64 x6] 43)))
        have HB2 := Lib.hid (Bt HB.out (Ba (Below.refl _ wr) (.cells #[.int .i64 x1, .int .i64 x2, .int .i64 x3, .int .i64 x4, .int .i64 x5, .int .i64 x6] 43)))
        rw [← et] at HO2
        obtain ⟨rfl, rfl⟩ : x1 = a ∧ x2 = b := by simpa using he
        clear he et hlt
        go_wp2
        go_roundw
        case measure => simp only [intOf]; omega
        case rel => exact ⟨k + 1, by omega, by go_num, HB2.out, HO2.out⟩
      · rw [if_neg he] at et
        have e0 := and_ne he
        have bX := Ba (Ba (Below.refl _ wr) (.cells #[.int .i64 x1, .int .i64 x2, .int .i64 x3, .int .i64 x4, .int .i64 x5, .int .i64 x6] 43)) (.cells #[.int .i64 x1, .int .i64 x2, .int .i64 x3, .int .i64 x4, .int .i64 x5, .int .i64 x6] 43)
        have O5 := Lib.hid (row_below HO.out bX)
        have B5 := Lib.hid (Bt HB.out bX)
        have L5 := Lib.hid (sl_lit (enc := encBx) (w := wr.alloc (.cells #[.int .i64 x1, .int .i64 x2, .int .i64 x3, .int .i64 x4, .int .i64 x5, .int .i64 x6] 43)) (cs := #[.int .i64 x1, .int .i64 x2, .int .i64 x3, .int .i64 x4, .int .i64 x5, .int .i64 x6]) (t := 43) (b := wr.heap.size + 1) [((x1, x2), x3, x4, x5, x6)] (by simp) rfl (by unfold maxLen; simp))
        have ET := Lib.hid et
        clear he et bX
        go_wp2_with (at_builtin; refine wpl_app2 apB rfl _ _ rfl w1.heap.size (by rfl) (by rfl) O5.out rfl L5.out (by simp; omega) B5.out.size ?_; intro v7 w7 hown7 hgrow7 hat7 hnil7; have O7 := Lib.hid hown7; have B7 := Lib.hid (grownB B5.out O5.out hgrow7); clear hown7 hgrow7 hat7 hnil7)
        go_roundw
        case measure => simp only [intOf]; omega
        case rel => exact ⟨k + 1, by omega, by go_num, B7.out, by rw [ET.out]; exact O7.out⟩
    · have hin : k = B.length := by omega
      subst hin
      have HO2 := Lib.hid HO.out
      rw [List.take_length] at HO2
      go_wp2
      go_ret
      exact ⟨_, rfl, row_mono HO2.out (Nat.le_of_lt H1.out.2.1), Bt H1.out.2.2 HB.out⟩

theorem cells4 {w : World} {b : Nat} {t : TypeId} {a1 a2 a3 a4 : Value} (h : w.heap[b]? = some (.cells #[a1, a2, a3, a4] t (0, 0))) :
    w.cell? ⟨b, 0, none⟩ = some a1 ∧ w.cell? ⟨b, 1, none⟩ = some a2 ∧ w.cell? ⟨b, 2, none⟩ = some a3 ∧ w.cell? ⟨b, 3, none⟩ = some a4 := by
  refine ⟨?_, ?_, ?_, ?_⟩ <;> simp [World.cell?, h]
theorem cells6 {w : World} {b : Nat} {t : TypeId} {a1 a2 a3 a4 a5 a6 : Value} (h : w.heap[b]? = some (.cells #[a1, a2, a3, a4, a5, a6] t (0, 0))) :
    w.cell? ⟨b, 0, none⟩ = some a1 ∧ w.cell? ⟨b, 1, none⟩ = some a2 ∧ w.cell? ⟨b, 2, none⟩ = some a3 ∧ w.cell? ⟨b, 3, none⟩ = some a4 ∧ w.cell? ⟨b, 4, none⟩ = some a5 ∧ w.cell? ⟨b, 5, none⟩ = some a6 := by
  refine ⟨?_, ?_, ?_, ?_, ?_, ?_⟩ <;> simp [World.cell?, h]
theorem gone_call (a b : Nat) (w : World) : Calls Tryz.prog 12 #[.int .i64 a, .int .i64 b] w fun e w' => e = .returned (.int .i64 (if a = b then 3 else 0)) ∧ w = w' := by
  by_cases h : a = b
  · subst h
    go_enter Tryz.func12, Tryz.ntmps12
    go_wp2
    go_ret
    exact ⟨by simp, rfl⟩
  · have hz : ¬ (a : Int) = (b : Int) := by omega
    go_enter Tryz.func12, Tryz.ntmps12
    go_wp2
    go_ret
    exact ⟨by simp [h], rfl⟩

set_option maxHeartbeats 2000000 in
set_option maxRecDepth 100000 in
theorem putB_call (B : List Bxd) (v : Value) (x1 x2 x3 x4 x5 x6 : Int) (w : World) (hl : Sl encBx w v B) (hn : B.length ≤ 100) :
    Calls Tryz.prog 9 #[v, .agg #[.int .i64 x1, .int .i64 x2, .int .i64 x3, .int .i64 x4, .int .i64 x5, .int .i64 x6]] w fun e w' => ∃ v', e = .returned v' ∧ w'.ownsRow w.heap.size 43 6 v' (woB B (x1, x2) ++ [((x1, x2), (x3, x4, x5, x6))]).length (flat encBx (woB B (x1, x2) ++ [((x1, x2), (x3, x4, x5, x6))])) ∧ RowKit.Below w.heap.size w w' := by
  have DC := Lib.hid (fun w' (hb : RowKit.Below w.heap.size w w') => dropB_call B v x1 x2 w' (hl.below hb) hn)
  have hz : (woB B (x1, x2)).length ≤ 100 := by
    have h1 : (woB B (x1, x2)).length ≤ B.length := List.length_filter_le _ _
    omega
  obtain ⟨p0, c0, rfl, v1, v2, v3⟩ := hl
  clear v3
  go_enter Tryz.func9, Tryz.ntmps9
  go_wp2_with fail
  refine (DC.out _ (by repeat (first | with_reducible exact Below.refl _ _ | with_reducible assumption | with_reducible apply Ba | with_reducible apply Bd | with_reducible apply Bn | with_reducible apply Bg | (with_reducible refine Bs ?_ (by first | (simp; done) | (simp; omega)) _) | (with_reducible refine Bt ?_ (by assumption)) | (with_reducible refine Bt ?_ (Gr.below (by assumption)))))).mono ?_
  rintro e w1 ⟨r1, rfl, ho, hb1⟩
  have HO := Lib.hid (row_mono (base' := w.heap.size) ho (by simp))
  have HB := Lib.hid (Bt (Ba (Below.refl _ w) (.cells #[.int .i64 x1, .int .i64 x2, .int .i64 x3, .int .i64 x4, .int .i64 x5, .int .i64 x6] 43)) hb1)
  obtain ⟨q1, q2, rfl, _, _, _⟩ := row_val ho
  have hk := blk_below (heap_alloc_new w (.cells #[.int .i64 x1, .int .i64 x2, .int .i64 x3, .int .i64 x4, .int .i64 x5, .int .i64 x6] 43)) hb1
  have O5 := Lib.hid (row_below HO.out (Ba (Below.refl _ w1) (.cells #[.int .i64 x1, .int .i64 x2, .int .i64 x3, .int .i64 x4, .int .i64 x5, .int .i64 x6] 43)))
  have B5 := Lib.hid (Bt HB.out (Ba (Below.refl _ w1) (.cells #[.int .i64 x1, .int .i64 x2, .int .i64 x3, .int .i64 x4, .int .i64 x5, .int .i64 x6] 43)))
  have L5 := Lib.hid (sl_lit (enc := encBx) (w := w1) (cs := #[.int .i64 x1, .int .i64 x2, .int .i64 x3, .int .i64 x4, .int .i64 x5, .int .i64 x6]) (t := 43) (b := w1.heap.size) [((x1, x2), (x3, x4, x5, x6))] (by simp) rfl (by unfold maxLen; simp))
  obtain ⟨d1, d2, d3, d4, d5, d6⟩ := cells6 hk
  clear ho hb1 hk DC
  go_wp2_with (at_builtin; refine wpl_app2 apB rfl _ _ rfl w.heap.size (by rfl) (by rfl) O5.out rfl L5.out (by simp; omega) B5.out.size ?_; intro v7 w7 hown7 hgrow7 hat7 hnil7; have O7 := Lib.hid hown7; have B7 := Lib.hid (grownB B5.out O5.out hgrow7); clear hown7 hgrow7 hat7 hnil7)
  go_ret
  exact ⟨_, rfl, O7.out, B7.out⟩

end Go.Proofs.YtlnncnbahmgpfaaGreatDoor
