/-
  OrderInts: numbers in order, each once; put, dropped; what is handed in stays.
-/
import Derived.Test.YtdpcdfjgpechbaaRInts
namespace Go.Proofs.Ytdpcdfjgpechbaa
set_option linter.unusedSimpArgs false
set_option linter.unusedVariables false
open Go.RowKit Go.Sort Go.Lib Go.Shelf

set_option maxHeartbeats 4000000 in
set_option maxRecDepth 100000 in
theorem orderInts_walk (l : List Int) (v : Value) (x : Int) (w : World) (hl : Sl encI w v l) : Calls Try.prog 8 #[v, .int .i64 x] w fun e w' => e = .returned (.bool true) ∧ RowKit.Below w.heap.size w w' := by
  obtain ⟨p, cap, rfl, hl1, hl2, hl3⟩ := hl
  have HL := Lib.hid (show Sl encI w (.slice p l.length cap) l from ⟨p, cap, rfl, hl1, hl2, hl3⟩)
  clear hl3
  by_cases hbig : l.length > 200
  · have hz : (l.length : Int) > 200 := by omega
    go_enter Try.func8, Try.ntmps8
    go_wp2_with (go_at_call 12; refine (alive_any _).mono ?_; rintro e w1 ⟨rfl, hb1⟩)
    go_ret
    exact ⟨rfl, hb1⟩
  · have hz : ¬ (l.length : Int) > 200 := by omega
    have hlen : l.length ≤ 200 := by omega
    clear hbig
    go_enter Try.func8, Try.ntmps8
    go_wp2_with fail
    refine (alive_any _).mono ?_
    rintro e w1 ⟨rfl, hb1⟩
    have B1 := Lib.hid hb1
    have L1 := Lib.hid (HL.out.below hb1)
    clear hb1
    go_wp2_with fail
    refine (numInts_call l _ w1 L1.out (by omega)).mono ?_
    rintro e w2 ⟨g1, cap1, rfl, ho2, hb2⟩
    have O2 := Lib.hid ho2
    have B2 := Lib.hid (Bt B1.out hb2)
    have F2 : Hid (Sl encI w2 (.slice (some ⟨g1, 0, none⟩) l.length cap1) l) := by
      have := row_sl lenI (frontI ho2 (by simp [marks]) l.length (by omega)) (by simp)
      rwa [List.take_left] at this
    clear ho2 hb2 B1 L1
    go_wp2_with fail
    refine (ints_call l _ w2 F2.out (by omega)).mono ?_
    rintro e w3 ⟨v3, rfl, ho3, hb3⟩
    have O3 := Lib.hid ho3
    have B3 := Lib.hid (Bt B2.out hb3)
    have O2' := Lib.hid (row_below O2.out hb3)
    clear ho3 hb3 B2 O2 F2
    go_wp2_with fail
    refine (rints_call l _ w3 (HL.out.below B3.out) (by omega)).mono ?_
    rintro e w4 ⟨v4, rfl, ho4, hb4⟩
    have S3 := Lib.hid ((O3.out.below hb4).sl lenI)
    have S4 := Lib.hid (row_sl lenI ho4 rfl)
    have B4 := Lib.hid (Bt B3.out hb4)
    have O2 := Lib.hid (row_below O2'.out hb4)
    clear ho4 hb4 B3 O3 O2'
    go_wp2_with fail
    refine (sameInts_call _ _ _ _ w4 S3.out S4.out).mono ?_
    rintro e w5 ⟨rfl, hg5⟩
    have hs1 : decide (srt ltI l = srt ltI l) = true := decide_eq_true rfl
    have B5 := Lib.hid (Bt B4.out hg5.below)
    have O5 := Lib.hid (row_below O2.out hg5.below)
    have S5 := Lib.hid (S4.out.below hg5.below)
    clear hg5 B4 O2 S3 S4
    go_wp2_with fail
    refine (keptInts_call l _ g1 cap1 _ w5 O5.out (HL.out.below B5.out) (by omega)).mono ?_
    rintro e w6 ⟨rfl, hg6⟩
    have B6 := Lib.hid (Bt B5.out hg6.below)
    have S6 := Lib.hid (S5.out.below hg6.below)
    have hm2 : (srt ltI l).length ≤ 200 := Nat.le_trans (srt_len ltI l) hlen
    have RM := Lib.hid (rise_srt sto_int l)
    clear hg6 B5 O5 S5 hs1
    obtain ⟨M, hM⟩ : ∃ M, M = srt ltI l := ⟨_, rfl⟩
    rw [← hM] at S6 hm2 RM
    clear hM
    obtain ⟨p4, c4, rfl, hc1, hc2, HX⟩ := S6.out
    have HX := Lib.hid HX
    go_wp2_with fail
    go_loopw [8, 38] (fun s8 i wr => ∃ k : Nat, k ≤ M.length ∧ i = .int .i64 k ∧ RowKit.Below w6.heap.size w6 wr ∧ wr.ownsRow w6.heap.size 3 1 s8 (leftI x (M.take k)).length (flat encI (leftI x (M.take k)))) (fun _ i _ => M.length - (intOf i).toNat)
    case atStart => exact ⟨0, Nat.zero_le _, rfl, (by repeat (first | with_reducible exact Below.refl _ _ | with_reducible assumption | with_reducible apply Ba | with_reducible apply Bd | with_reducible apply Bn | with_reducible apply Bg | (with_reducible refine Bs ?_ (by first | (simp; done) | (simp; omega)) _) | (with_reducible refine Bt ?_ (by assumption)) | (with_reducible refine Bt ?_ (Gr.below (by assumption))))), World.ownsRow_made w6 #[] 0 (Nat.le_refl _) (Nat.zero_le _) (by simp)⟩
    case round =>
      obtain ⟨k, hk, rfl, hb, ho⟩ := hrel
      by_cases hkn : k < M.length
      · obtain ⟨g4, o4, rfl, hg1, hg2⟩ := HX.out (by omega)
        have c1 := Bc hb hg1 (atI hg2 hkn)
        have et := leftI_take x M k hkn
        have hL2 : (leftI x (M.take k)).length ≤ 1000 := by have := leftI_len x (M.take k); simp at this; omega
        generalize hy : M[k]! = y at c1 et
        have HB := Lib.hid hb
        have HO := Lib.hid ho
        clear hy hg2 hb ho
        by_cases hyx : y = x
        · subst hyx
          rw [if_pos rfl, List.append_nil] at et
          have ET := Lib.hid et
          clear et
          go_wp2
          go_roundw
          case measure => simp [intOf]; omega
          case rel => exact ⟨k + 1, by omega, by go_num, HB.out, by rw [ET.out]; exact HO.out⟩
        · rw [if_neg hyx] at et
          have ET := Lib.hid et
          have hyx2 : (y == x) = false := by simpa using hyx
          have A3 := Lib.hid (Ba HB.out (.cells #[.int .i64 y] 3))
          have O3 := Lib.hid (HO.out.alloc (.cells #[.int .i64 y] 3))
          have S3 := Lib.hid (sl_lit (enc := encI) (w := wr) (cs := #[.int .i64 y]) (t := 3) (b := wr.heap.size) [y] rfl rfl (by unfold maxLen; simp))
          have L2 := Lib.hid hL2
          clear et hL2
          go_wp2_with (at_builtin; refine wpl_app apI rfl _ _ rfl w6.heap.size (by rfl) (by rfl) O3.out rfl S3.out (by have := L2.out; simp; omega) A3.out.size ?_; intro v7 w7 hown1 hgrow1 hnil1)
          have b4 := grownB A3.out O3.out hgrow1
          go_roundw
          case measure => simp [intOf]; omega
          case rel => exact ⟨k + 1, by omega, by go_num, b4, by rw [ET.out, List.length_append]; exact hown1⟩
      · have hkn' : k = M.length := by omega
        rw [hkn', List.take_length] at ho
        have LO := Lib.hid (row_sl lenI ho rfl)
        have B7 := Lib.hid (Bt B6.out hb)
        have S7 := Lib.hid (S6.out.below hb)
        clear ho hkn' hb
        go_wp2_with fail
        refine (numInts_call M _ wr S7.out (by omega)).mono ?_
        rintro e w8 ⟨g8, cap8, rfl, ho8, hb8⟩
        have F8 : Hid (Sl encI w8 (.slice (some ⟨g8, 0, none⟩) M.length cap8) M) := by
          have := row_sl lenI (frontI ho8 (by simp [marks]) M.length (by omega)) (by simp)
          rwa [List.take_left] at this
        have O8 := Lib.hid ho8
        have B8 := Lib.hid (Bt B7.out hb8)
        have S8 := Lib.hid (S7.out.below hb8)
        have L8 := Lib.hid (LO.out.below hb8)
        clear ho8 hb8 B7 S7 LO
        go_wp2_with fail
        refine (putI_call M _ x w8 F8.out RM.out (by omega)).mono ?_
        rintro e w9 ⟨v9, rfl, ho9, hb9⟩
        have O9 := Lib.hid (row_below O8.out hb9)
        have B9 := Lib.hid (Bt B8.out hb9)
        have S9 := Lib.hid (S8.out.below hb9)
        have L9 := Lib.hid (L8.out.below hb9)
        have F9 := Lib.hid (F8.out.below hb9)
        have P9 := Lib.hid (ho9.sl lenI)
        clear ho9 hb9 O8 B8 S8 L8 F8
        go_wp2_with fail
        refine (drop_call M _ x w9 F9.out (by omega)).mono ?_
        rintro e w10 ⟨v10, rfl, ho10, hb10⟩
        have O10 := Lib.hid (row_below O9.out hb10)
        have B10 := Lib.hid (Bt B9.out hb10)
        have S10 := Lib.hid (S9.out.below hb10)
        have L10 := Lib.hid (L9.out.below hb10)
        have P10 := Lib.hid (P9.out.below hb10)
        have D10 := Lib.hid (ho10.sl lenI)
        clear ho10 hb10 O9 B9 S9 L9 F9 P9
        have A11 := Lib.hid (Ba (Below.refl _ w10) (.cells #[] 3))
        have O11 := Lib.hid (show (w10.alloc (.cells #[] 3)).ownsRow w10.heap.size 3 1 (.slice (some ⟨w10.heap.size, 0, none⟩) 0 0) 0 (flat encI []) from World.ownsRow_made _ #[] 0 (Nat.le_refl _) (Nat.zero_le _) (by simp))
        have S11 := Lib.hid (S10.out.below A11.out)
        go_wp2_with (first
          | (at_builtin; refine wpl_app apI rfl _ _ rfl w10.heap.size (by rfl) (by rfl) O11.out rfl S11.out (by simp; omega) A11.out.size ?_; intro v12 w12 hown1 hgrow1 hnil1; have A12 := Lib.hid (Ba (grownB A11.out O11.out hgrow1) (.cells #[.int .i64 x] 3)); have O12 := Lib.hid (hown1.alloc (.cells #[.int .i64 x] 3)); have S12 := Lib.hid (sl_lit (enc := encI) (w := w12) (cs := #[.int .i64 x]) (t := 3) (b := w12.heap.size) [x] rfl rfl (by unfold maxLen; simp)); clear hown1 hgrow1 hnil1 O11)
          | (at_builtin; refine wpl_app apI rfl _ _ rfl w10.heap.size (by rfl) (by rfl) O12.out (by rw [List.length_append]) S12.out (by rw [List.nil_append]; show M.length + 1 ≤ 1000000; omega) A12.out.size ?_; intro v13 w13 hown2 hgrow2 hnil2; have B13 := Lib.hid (grownB A12.out O12.out hgrow2); have S13 := Lib.hid (row_sl lenI hown2 (by simp)); clear hown2 hgrow2 hnil2 O12))
        have SR := Lib.hid (show srt ltI ([] ++ M ++ [x]) = put ltI x M by rw [List.nil_append, srt_snoc, srt_self sto_int RM.out])
        refine (rints_call _ _ w13 S13.out (by rw [List.nil_append, List.length_append]; show M.length + 1 ≤ 10000; omega)).mono ?_
        rintro e w14 ⟨v14, rfl, ho14, hb14⟩
        have B14 := Lib.hid (Bt B13.out hb14)
        have R14 : Hid (Sl encI w14 v14 (put ltI x M)) := by have := row_sl lenI ho14 rfl; rwa [SR.out] at this
        have P14 := Lib.hid (P10.out.below B14.out)
        clear ho14 hb14 S13 B13 P10 A11 A12 S11 S12
        go_wp2_with fail
        refine (sameInts_call _ _ _ _ w14 P14.out R14.out).mono ?_
        rintro e w15 ⟨rfl, hg15⟩
        have hs2 : decide (put ltI x M = put ltI x M) = true := decide_eq_true rfl
        have B15 := Lib.hid (Bt B14.out hg15.below)
        have D15 := Lib.hid (D10.out.below B15.out)
        have L15 := Lib.hid (L10.out.below B15.out)
        clear hg15 B14 P14 R14 D10 L10
        go_wp2_with fail
        refine (sameInts_call _ _ _ _ w15 D15.out L15.out).mono ?_
        rintro e w16 ⟨rfl, hg16⟩
        have hs3 : decide (leftI x M = leftI x M) = true := decide_eq_true rfl
        have B16 := Lib.hid (Bt B15.out hg16.below)
        have O16 := Lib.hid (row_below O10.out B16.out)
        have S16 := Lib.hid (S10.out.below B16.out)
        clear hg16 B15 D15 L15 O10 S10
        go_wp2_with fail
        refine (keptInts_call M _ g8 cap8 _ w16 O16.out S16.out (by omega)).mono ?_
        rintro e w17 ⟨rfl, hg17⟩
        go_wp2
        go_ret
        exact ⟨by simp, Bt (Bt B10.out B16.out) hg17.below⟩
end Go.Proofs.Ytdpcdfjgpechbaa
