/-
  OrderHandles: all handles in order, each once; what is handed in stays.
-/
import Derived.Test.YtdpcdfjgpechbaaAlive
namespace Go.Proofs.Ytdpcdfjgpechbaa
set_option linter.unusedSimpArgs false
set_option linter.unusedVariables false
open Go.RowKit Go.Sort Go.Lib Go.Shelf

set_option maxHeartbeats 2000000 in
set_option maxRecDepth 100000 in
theorem orderHandles_walk (l : List Hd) (v : Value) (w : World) (hl : Sl encH w v l) : Calls Try.prog 3 #[v] w fun e w' => e = .returned (.bool true) ∧ RowKit.Below w.heap.size w w' := by
  obtain ⟨p, cap, rfl, hl1, hl2, hl3⟩ := hl
  have HL := Lib.hid (show Sl encH w (.slice p l.length cap) l from ⟨p, cap, rfl, hl1, hl2, hl3⟩)
  clear hl3
  by_cases hbig : l.length > 200
  · have hz : (l.length : Int) > 200 := by omega
    go_enter Try.func3, Try.ntmps3
    go_wp2_with (go_at_call 12; refine (alive_any _).mono ?_; rintro e w1 ⟨rfl, hb1⟩)
    go_ret
    exact ⟨rfl, hb1⟩
  · have hz : ¬ (l.length : Int) > 200 := by omega
    have hlen : l.length ≤ 200 := by omega
    clear hbig
    go_enter Try.func3, Try.ntmps3
    go_wp2_with fail
    refine (alive_any _).mono ?_
    rintro e w1 ⟨rfl, hb1⟩
    have HB1 := Lib.hid hb1
    have O1 := Lib.hid (show (w1.alloc (.cells #[] 28)).ownsRow w1.heap.size 28 2 (.slice (some ⟨w1.heap.size, 0, none⟩) 0 0) 0 (flat encH []) from World.ownsRow_made _ #[] 0 (Nat.le_refl _) (Nat.zero_le _) (by simp))
    have A1 := Lib.hid (Ba (Below.refl _ w1) (.cells #[] 28))
    have S1 := Lib.hid ((HL.out.below hb1).below A1.out)
    clear hb1
    go_wp2_with (at_builtin; refine wpl_app apH rfl _ _ rfl w1.heap.size (by rfl) (by rfl) O1.out rfl S1.out (by simp; omega) A1.out.size ?_; intro v1 w2 hown1 hgrow1 hnil1)
    have b2 := grownB A1.out O1.out hgrow1
    have S2 := Lib.hid (row_sl lenH hown1 (by simp))
    rw [List.nil_append] at S2
    have HB2 := Lib.hid (Bt HB1.out b2)
    clear hown1 hgrow1 hnil1 O1 A1 S1 HB1
    go_wp2_with fail
    refine (handles_call l v1 w2 S2.out (by omega)).mono ?_
    rintro e w3 ⟨v2, rfl, ho3, hb3⟩
    have O3 := Lib.hid ho3
    have B3 := Lib.hid hb3
    have HL3 := Lib.hid (HL.out.below (Bt HB2.out hb3))
    clear ho3 hb3
    go_wp2_with fail
    refine (rhandles_call l _ w3 HL3.out (by omega)).mono ?_
    rintro e w4 ⟨v4, rfl, ho4, _, hb4⟩
    have S4 := Lib.hid (row_sl lenH ho4 rfl)
    have O4 := Lib.hid (O3.out.below hb4)
    have B4 := Lib.hid (Bt B3.out hb4)
    clear ho4 hb4 O3 B3 HL3
    go_wp2_with fail
    refine (same_call _ _ _ _ w4 (O4.out.sl lenH) S4.out).mono ?_
    rintro e w5 ⟨rfl, hg5⟩
    have O5 := Lib.hid (O4.out.below hg5.below)
    have B5 := Lib.hid (Bt B4.out hg5.below)
    have HL5 := Lib.hid (HL.out.below (Bt HB2.out B5.out))
    have S5 := Lib.hid (S2.out.below B5.out)
    have hs1 : decide (srt ltH l = srt ltH l) = true := decide_eq_true rfl
    clear hg5 O4 B4 S4
    go_wp2_with fail
    refine (same_call _ _ _ _ w5 S5.out HL5.out).mono ?_
    rintro e w6 ⟨rfl, hg6⟩
    have hs2 : decide (l = l) = true := decide_eq_true rfl
    have O6 := Lib.hid (O5.out.below hg6.below)
    have B6 := Lib.hid (Bt B5.out hg6.below)
    clear hg6 O5 B5 HL5 S5
    obtain ⟨p2, cap2, rfl, hc1, hc2, hO⟩ := O6.out
    have HO := Lib.hid hO
    have hn2 : (srt ltH l).length ≤ 200 := Nat.le_trans (srt_len ltH l) hlen
    generalize hnn : (srt ltH l).length = n at hc1 hn2 HO O6 ⊢
    clear hO
    go_wp2
    go_loopw [29] (fun i wr => ∃ k : Nat, k ≤ n ∧ i = .int .i64 k ∧ RowKit.Below w2.heap.size w2 wr ∧ (0 < n → ∃ g, p2 = some ⟨g, 0, none⟩ ∧ w2.heap.size ≤ g ∧ ∃ d : Array Hd, d.size = n ∧ HoldsK encH 2 wr g 0 d)) (fun i _ => n - (intOf i).toNat)
    case atStart =>
      refine ⟨0, Nat.zero_le _, rfl, B6.out, fun hp => ?_⟩
      obtain ⟨g, rfl, h1, h2, h3⟩ := HO.out hp
      exact ⟨g, rfl, h1, _, by simpa using hnn, h3⟩
    case round =>
      obtain ⟨k, hk, rfl, hb, hrow⟩ := hrel
      by_cases hkn : k < n
      · obtain ⟨g, rfl, hg1, d, hd, hH⟩ := hrow (by omega)
        obtain ⟨⟨c1, c2⟩, f1, f2⟩ := at2 hH (show k < d.size by omega)
        simp only [Nat.zero_add] at c1 c2 f1 f2
        have HH := Lib.hid hH
        have HB := Lib.hid hb
        have HD := Lib.hid hd
        clear hrow hH hb hd hnn
        go_wp2
        go_roundw
        case measure => simp [intOf]; omega
        case rel =>
          refine ⟨k + 1, by omega, by go_num, (HB.out.setCell (p := ⟨g, k * 2, none⟩) hg1 _).setCell (p := ⟨g, k * 2 + 1, none⟩) hg1 _, fun _ => ⟨g, rfl, hg1, d.setIfInBounds k (-7, -7), by simpa using HD.out, ?_⟩⟩
          have := set2 HH.out (show k < d.size by have := HD.out; omega) (-7, -7)
          simp only [Nat.zero_add] at this
          exact this
      · have HB := Lib.hid hb
        have S7 := Lib.hid (S2.out.below hb)
        have L7 := Lib.hid (HL.out.below (Bt HB2.out hb))
        clear hrow hb hnn
        go_wp2_with (go_at_call 14; refine (same_call _ _ _ _ wr S7.out L7.out).mono ?_; rintro e w7 ⟨rfl, hg7⟩)
        go_ret
        exact ⟨by simp, Bt (Bt HB2.out HB.out) hg7.below⟩
end Go.Proofs.Ytdpcdfjgpechbaa
