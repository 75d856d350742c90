/-
  order.Pairs: pairs in order, each once.
-/
import Derived.Test.YtbodefigeiaodaaDoorSort
namespace Go.Proofs.YtbodefigeiaodaaDoor
set_option linter.unusedSimpArgs false
set_option linter.unusedVariables false
open Go.RowKit Go.Sort Go.Lib Go.Shelf

theorem right_take (l : List Pr) (k : Nat) (hk : k < l.length) : rightOnes (l.take (k + 1)) = rightOnes (l.take k) ++ (if l[k]!.1 = l[k]!.2 then [] else [norm l[k]!]) := by
  rw [List.take_succ_eq_append_getElem hk, getElem!_pos l k hk]
  unfold rightOnes
  rw [List.filterMap_append]
  congr 1
  by_cases h : l[k].1 = l[k].2
  · simp [h]
  · simp [h]
theorem right_len (l : List Pr) : (rightOnes l).length ≤ l.length := List.length_filterMap_le _ _

set_option maxHeartbeats 2000000 in
set_option maxRecDepth 100000 in
theorem opairs_call (l : List Pr) (v : Value) (w : World) (hl : Sl encP w v l) (hlen : l.length ≤ 10000) :
    Calls Tryd.prog 45 #[v] w fun e w' => ∃ v', e = .returned v' ∧ Own w.heap.size encP 4 w' v' (srt ltP (rightOnes l)) ∧ RowKit.Below w.heap.size w w' := by
  obtain ⟨p, cap, rfl, h1, h2, h⟩ := hl
  have HL := Lib.hid h
  have hz : (l.length : Int) ≤ 10000 := by omega
  clear h
  go_enter Tryd.func45, Tryd.ntmps45
  go_wp2
  go_loopw [3, 10] (fun v i wr => ∃ k : Nat, k ≤ l.length ∧ i = .int .i64 k ∧ RowKit.Below w.heap.size w wr ∧ wr.ownsRow w.heap.size 68 4 v (rightOnes (l.take k)).length (flat encP (rightOnes (l.take k)))) (fun _ i _ => l.length - (intOf i).toNat)
  case atStart => exact ⟨0, Nat.zero_le _, rfl, (by repeat (first | with_reducible exact Below.refl _ _ | with_reducible assumption | with_reducible apply Ba | with_reducible apply Bd | with_reducible apply Bn | with_reducible apply Bg | (with_reducible refine Bs ?_ (by first | (simp; done) | (simp; omega)) _) | (with_reducible refine Bt ?_ (by assumption)) | (with_reducible refine Bt ?_ (Gr.below (by assumption))))), World.ownsRow_nil _ _ _ _⟩
  case round =>
    obtain ⟨k, hk, rfl, hb, ho⟩ := hrel
    by_cases hkn : k < l.length
    · obtain ⟨g, o, rfl, hg1, hg2⟩ := HL.out (by omega)
      obtain ⟨c1, c2, c3, c4⟩ := atP hg2 hkn
      replace c1 := Bc hb hg1 c1
      replace c2 := Bc hb hg1 c2
      replace c3 := Bc hb hg1 c3
      replace c4 := Bc hb hg1 c4
      have et := right_take l k hkn
      have hlen2 : (rightOnes (l.take k)).length ≤ 10000 := by have := right_len (l.take k); simp at this; omega
      generalize hx : l[k]! = x at *
      obtain ⟨⟨x1, x2⟩, x3, x4⟩ := x
      dsimp only at c1 c2 c3 c4 et
      have H2 := Lib.hid hlen2
      have HB2 := Lib.hid (Ba hb (.cells #[.int .i64 x1, .int .i64 x2, .int .i64 x3, .int .i64 x4] 68))
      have HO2 := Lib.hid (ho.alloc (.cells #[.int .i64 x1, .int .i64 x2, .int .i64 x3, .int .i64 x4] 68))
      clear hg2 hx hb ho hlen2
      by_cases hs : ((x1, x2) : Hd) = (x3, x4)
      · rw [if_pos hs, List.append_nil] at et
        obtain ⟨rfl, rfl⟩ : x1 = x3 ∧ x2 = x4 := by simpa using hs
        have ET := Lib.hid et
        clear hs et
        go_wp2_with fail
        refine (pair_no x1 x2 _).mono ?_
        rintro e w1 ⟨rfl, hb1⟩
        have HB3 := Lib.hid (Bt HB2.out hb1)
        have HO3 := Lib.hid (row_below HO2.out hb1)
        clear hb1 HB2 HO2
        go_wp2
        go_roundw
        case measure => simp [intOf]; omega
        case rel => exact ⟨k + 1, by omega, by go_num, Ba HB3.out _, by rw [ET.out]; exact HO3.out.alloc _⟩
      · rw [if_neg hs] at et
        have hp := pair_yes x1 x2 x3 x4
        generalize hn : norm ((x1, x2), (x3, x4)) = q at et hp
        obtain ⟨⟨q1, q2⟩, q3, q4⟩ := q
        have HP : Hid (∀ W, Calls Tryd.prog 54 #[.agg #[.int .i64 x1, .int .i64 x2], .agg #[.int .i64 x3, .int .i64 x4]] W fun e w' => e = .returned (.tuple #[.agg #[.int .i64 q1, .int .i64 q2, .int .i64 q3, .int .i64 q4], .bool true]) ∧ RowKit.Below W.heap.size W w') := fun W => hp W hs
        have ET := Lib.hid et
        clear hs et hp hn
        go_wp2_with fail
        refine (HP.out _).mono ?_
        rintro e w1 ⟨rfl, hb1⟩
        have HB3 := Lib.hid (Ba (Ba (Bt HB2.out hb1) (.cells #[.int .i64 q1, .int .i64 q2, .int .i64 q3, .int .i64 q4] 68)) (.cells #[.int .i64 q1, .int .i64 q2, .int .i64 q3, .int .i64 q4] 68))
        have HO3 := Lib.hid (((row_below HO2.out hb1).alloc (.cells #[.int .i64 q1, .int .i64 q2, .int .i64 q3, .int .i64 q4] 68)).alloc (.cells #[.int .i64 q1, .int .i64 q2, .int .i64 q3, .int .i64 q4] 68))
        have S3 := Lib.hid (sl_lit (enc := encP) (w := w1.alloc (.cells #[.int .i64 q1, .int .i64 q2, .int .i64 q3, .int .i64 q4] 68)) (cs := #[.int .i64 q1, .int .i64 q2, .int .i64 q3, .int .i64 q4]) (t := 68) (b := w1.heap.size + 1) [((q1, q2), (q3, q4))] (by simp) rfl (by unfold maxLen; simp))
        clear hb1 HB2 HO2
        go_wp2_with (at_builtin; refine wpl_app apP rfl _ _ rfl w.heap.size (by rfl) (by rfl) HO3.out rfl S3.out (by first | (simp; done) | (simp; have := H2.out; omega)) HB3.out.size ?_; intro v1 w3 hown1 hgrow1 hnil1)
        have b4 := grownB HB3.out HO3.out hgrow1
        go_roundw
        case measure => simp [intOf]; omega
        case rel => exact ⟨k + 1, by omega, by go_num, b4, by rw [ET.out, List.length_append]; exact hown1⟩
    · have hkn' : k = l.length := by omega
      rw [hkn', List.take_length] at ho
      have HO := Lib.hid (row_sl lenP ho rfl)
      have HB := Lib.hid hb
      have H2 := Lib.hid (show (rightOnes l).length ≤ 100000 by have := right_len l; omega)
      clear ho hkn' hb
      go_wp2_with fail
      refine (risingP_call _ _ wr HO.out H2.out).mono ?_
      rintro e w4 ⟨v4, rfl, ho4, hb4⟩
      have O4 := Lib.hid (ho4.mono HB.out.size)
      have B4 := Lib.hid (Bt HB.out hb4)
      clear ho4 hb4
      go_wp2
      go_ret
      exact ⟨_, rfl, O4.out, B4.out⟩
end Go.Proofs.YtbodefigeiaodaaDoor
