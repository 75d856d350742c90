/-
  OrderPairs: all pairs in order, each once; what is handed in stays.
-/
import Derived.Test.YtdpcdfjgpechbaaRPairs
namespace Go.Proofs.Ytdpcdfjgpechbaa
set_option linter.unusedSimpArgs false
set_option linter.unusedVariables false
open Go.RowKit Go.Sort Go.Lib Go.Shelf

set_option maxHeartbeats 2000000 in
set_option maxRecDepth 100000 in
theorem orderPairs_walk (l : List Pr) (v : Value) (w : World) (hl : Sl encP w v l) : Calls Try.prog 5 #[v] w fun e w' => e = .returned (.bool true) ∧ RowKit.Below w.heap.size w w' := by
  obtain ⟨p, cap, rfl, hl1, hl2, hl3⟩ := hl
  have HL := Lib.hid (show Sl encP w (.slice p l.length cap) l from ⟨p, cap, rfl, hl1, hl2, hl3⟩)
  clear hl3
  by_cases hbig : l.length > 200
  · have hz : (l.length : Int) > 200 := by omega
    go_enter Try.func5, Try.ntmps5
    go_wp2_with (go_at_call 12; refine (alive_any _).mono ?_; rintro e w1 ⟨rfl, hb1⟩)
    go_ret
    exact ⟨rfl, hb1⟩
  · have hz : ¬ (l.length : Int) > 200 := by omega
    have hlen : l.length ≤ 200 := by omega
    clear hbig
    go_enter Try.func5, Try.ntmps5
    go_wp2_with fail
    refine (alive_any _).mono ?_
    rintro e w1 ⟨rfl, hb1⟩
    have HB1 := Lib.hid hb1
    have O1 := Lib.hid (show (w1.alloc (.cells #[] 31)).ownsRow w1.heap.size 31 4 (.slice (some ⟨w1.heap.size, 0, none⟩) 0 0) 0 (flat encP []) from World.ownsRow_made _ #[] 0 (Nat.le_refl _) (Nat.zero_le _) (by simp))
    have A1 := Lib.hid (Ba (Below.refl _ w1) (.cells #[] 31))
    have S1 := Lib.hid ((HL.out.below hb1).below A1.out)
    clear hb1
    go_wp2_with (at_builtin; refine wpl_app apP rfl _ _ rfl w1.heap.size (by rfl) (by rfl) O1.out rfl S1.out (by simp; omega) A1.out.size ?_; intro v1 w2 hown1 hgrow1 hnil1)
    have b2 := grownB A1.out O1.out hgrow1
    have S2 := Lib.hid (row_sl lenP hown1 (by simp))
    rw [List.nil_append] at S2
    have HB2 := Lib.hid (Bt HB1.out b2)
    clear hown1 hgrow1 hnil1 O1 A1 S1 HB1
    go_wp2_with fail
    refine (opairs_call l v1 w2 S2.out (by omega)).mono ?_
    rintro e w3 ⟨v2, rfl, ho3, hb3⟩
    have O3 := Lib.hid ho3
    have B3 := Lib.hid hb3
    have HL3 := Lib.hid (HL.out.below (Bt HB2.out hb3))
    clear ho3 hb3
    go_wp2_with fail
    refine (rpairs_call l _ w3 HL3.out (by omega)).mono ?_
    rintro e w4 ⟨v4, rfl, ho4, hb4⟩
    have S4 := Lib.hid (row_sl lenP ho4 rfl)
    have O4 := Lib.hid (O3.out.below hb4)
    have B4 := Lib.hid (Bt B3.out hb4)
    clear ho4 hb4 O3 B3 HL3
    go_wp2_with fail
    refine (samePairs_call _ _ _ _ w4 (O4.out.sl lenP) S4.out).mono ?_
    rintro e w5 ⟨rfl, hg5⟩
    have B5 := Lib.hid (Bt B4.out hg5.below)
    have HL5 := Lib.hid (HL.out.below (Bt HB2.out B5.out))
    have S5 := Lib.hid (S2.out.below B5.out)
    have hs1 : decide (srt ltP (rightOnes l) = srt ltP (rightOnes l)) = true := decide_eq_true rfl
    clear hg5 O4 B4 S4
    go_wp2_with fail
    refine (samePairs_call _ _ _ _ w5 S5.out HL5.out).mono ?_
    rintro e w6 ⟨rfl, hg6⟩
    go_wp2
    go_ret
    exact ⟨by simp, Bt (Bt HB2.out B5.out) hg6.below⟩
end Go.Proofs.Ytdpcdfjgpechbaa
