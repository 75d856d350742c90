/-
  The table's Entity.
-/
import Derived.Test.YtknfmjjlfhfocaaDoorTd
namespace Go.Proofs.YtknfmjjlfhfocaaDoor
set_option linter.unusedSimpArgs false
set_option linter.unusedVariables false
open Go.RowKit Go.Sort Go.Lib Go.Shelf

section
variable {w : World} {M : Nat → Prop} {pt q : Nat} {R : List En} {A : Nat → Addr}
set_option maxHeartbeats 2000000 in
theorem tent_no (h : Tab w M pt q R) (i : Int) (hn : ¬ (0 ≤ i ∧ i < R.length)) (hE : Er7 w A) : Calls Tryd.prog 24 #[ptP pt, .int .i64 i] w fun e w' => e = .returned (.tuple #[.agg #[.int .i64 0, .int .i64 0, .slice none 0 0], errC A 0]) ∧ RowKit.Below w.heap.size w w' := by
  have HH : Hid (∀ W, RowKit.Below w.heap.size w W → Calls Tryd.prog 25 #[ptP pt, .int .i64 i] W fun e w' => e = .returned (.tuple #[.agg #[.int .i64 0, .int .i64 0], errC A 0]) ∧ RowKit.Below W.heap.size W w') := fun W hb => thandle_no (h.below hb) i hn (hE.below hb)
  clear h hn hE
  unfold errC at *
  generalize A 0 = ea at *
  go_enter Tryd.func24, Tryd.ntmps24
  go_wp2_with fail
  refine (HH.out _ (Ba (Below.refl _ w) _)).mono ?_
  rintro e w1 ⟨rfl, hb1⟩
  have b1 := blk_below (heap_alloc_new w (.cells #[.int .i64 0, .int .i64 0, .slice none 0 0] 51)) hb1
  obtain ⟨⟨r0, r1, r2⟩, r3, r4, r5⟩ := three_cells b1
  have hr := cell_lt r0
  have B1 := Lib.hid (Bt (Ba (Below.refl _ w) (.cells #[.int .i64 0, .int .i64 0, .slice none 0 0] 51)) hb1)
  clear hb1 b1
  go_wp2
  exact bodyPost_ret (v := .tuple #[.agg #[.int .i64 0, .int .i64 0, .slice none 0 0], .iface 141 (.pointer (some ea))]) (by simp [results, Tryd.results24, go_sem, *]) rfl ⟨rfl, Ba (Bs (Bs (Bs B1.out (Nat.le_refl _) _) (Nat.le_refl _) _) (Nat.le_refl _) _) _⟩

set_option maxHeartbeats 4000000 in
set_option maxRecDepth 100000 in
theorem tent_yes (h : Tab w M pt q R) (n : Nat) (hn : n < R.length) (hT : TabW w) : Calls Tryd.prog 24 #[ptP pt, .int .i64 n] w fun e w' => ∃ v, e = .returned (.tuple #[.agg #[.int .i64 R[n]!.1.1, .int .i64 R[n]!.1.2, v], .nilIface]) ∧ w'.ownsRow w.heap.size 41 3 v R[n]!.2.length (flat encV R[n]!.2) ∧ RowKit.Below w.heap.size w w' := by
  have hOk := h.ok R[n]! (by rw [getElem!_pos R n hn]; exact List.getElem_mem hn)
  have h0 := h
  have hq := h.hq
  obtain ⟨ph, pm, f, hTb, _, hf, _⟩ := h
  have HT := Lib.hid hTb
  have HF := Lib.hid hf
  have HH : Hid (∀ W, RowKit.Below w.heap.size w W → Calls Tryd.prog 25 #[ptP pt, .int .i64 n] W fun e w' => e = .returned (.tuple #[aggH R[n]!.1, .nilIface]) ∧ RowKit.Below W.heap.size W w') := fun W hb => thandle_yes (h0.below hb) n hn
  have HK : Hid (∀ W, RowKit.Below w.heap.size w W → Calls Tryd.prog 33 #[.int .u64 q] W fun e w' => ∃ v', e = .returned v' ∧ w'.ownsRow W.heap.size 3 1 v' (Ks q).length (flat encI (Ks q)) ∧ RowKit.Below W.heap.size W w') := fun W hb => mkinds_call q (by omega) W (hT.below hb)
  have HG : Hid (∀ W k g, f k = some g → RowKit.Below w.heap.size w W → Calls Tryd.prog 45 #[ptP g, .int .i64 n] W fun e w' => e = .returned (.tuple #[aggV (fndV R[n]!.2 k), .nilIface]) ∧ RowKit.Below W.heap.size W w') := fun W k g hk hb => by
    obtain ⟨MC, hC⟩ := hTb.col hk
    have := getV_yes (hC.below hb) n (by rw [colK_len]; exact hn)
    rwa [colK_at R k hn] at this
  have HV := Lib.hid (ent_vals hOk)
  have HKL := Lib.hid (Ks_len q)
  have HKK := Lib.hid (Ks_kind hq)
  obtain ⟨K, hKe⟩ : ∃ K, K = Ks q := ⟨_, rfl⟩
  rw [← hKe] at HK HV HKL HKK HF
  generalize hrow : R[n]!.2 = l at *
  generalize hhd : R[n]!.1 = x at *
  obtain ⟨x1, x2⟩ := x
  unfold aggH at HH
  dsimp only at HH ⊢
  clear hKe hrow hhd hOk h0 hTb hf hT hn
  go_enter Tryd.func24, Tryd.ntmps24
  go_wp2_with fail
  refine (HH.out _ (Ba (Below.refl _ w) _)).mono ?_
  rintro e w1 ⟨rfl, hb1⟩
  have b1 := blk_below (heap_alloc_new w (.cells #[.int .i64 0, .int .i64 0, .slice none 0 0] 51)) hb1
  have B1 := Lib.hid (Bt (Ba (Below.refl _ w) (.cells #[.int .i64 0, .int .i64 0, .slice none 0 0] 51)) hb1)
  clear hb1
  obtain ⟨W1, hW1⟩ : ∃ W1, W1 = (w1.alloc (.cells #[.int .i64 x1, .int .i64 x2] 38)).alloc (.cells #[.int .i64 x1, .int .i64 x2, .slice none 0 0] 51) := ⟨_, rfl⟩
  have BW1 := Lib.hid (show RowKit.Below w.heap.size w W1 by rw [hW1]; exact Ba (Ba B1.out _) _)
  have r1 := Lib.hid (show W1.heap[w.heap.size]? = some (.cells #[.int .i64 0, .int .i64 0, .slice none 0 0] 51 (0, 0)) by rw [hW1]; exact blk_below (blk_below b1 (Ba (Below.refl _ _) _)) (Ba (Below.refl _ _) _))
  have e1 := Lib.hid (show W1.heap[w1.heap.size + 1]? = some (.cells #[.int .i64 x1, .int .i64 x2, .slice none 0 0] 51 (0, 0)) by rw [hW1]; have := heap_alloc_new (w1.alloc (.cells #[.int .i64 x1, .int .i64 x2] 38)) (.cells #[.int .i64 x1, .int .i64 x2, .slice none 0 0] 51); simpa using this)
  have hxl : w.heap.size < w1.heap.size := (Array.getElem?_eq_some_iff.1 b1).1
  obtain ⟨⟨c0, c1, c2⟩, f0, f1, f2⟩ := three_cells (HT.out.below BW1.out).head
  have hl := cell_lt c0
  rw [hW1] at c0 c1 c2 f0 f1 f2 hl BW1 r1 e1
  clear b1 hW1
  go_wp2_with fail
  refine (HK.out _ BW1.out).mono ?_
  rintro e w2 ⟨vk, rfl, hok, hb2⟩
  have B2 := Lib.hid (Bt BW1.out hb2)
  have r2 := Lib.hid (blk_below r1.out hb2)
  have e2 := Lib.hid (blk_below e1.out hb2)
  have SK := Lib.hid (row_mono hok BW1.out.size)
  obtain ⟨pk, ck, rfl, _, _, _⟩ := row_val hok
  have hx2 : w1.heap.size + 1 < w2.heap.size := (Array.getElem?_eq_some_iff.1 e2.out).1
  have hre : w.heap.size < w1.heap.size + 1 := by omega
  generalize w1.heap.size + 1 = eb at *
  clear hok hb2 c0 c1 c2 f0 f1 f2 hl BW1 r1 e1 HH HK B1
  have hKb : K.length ≤ 9223372036854775807 := by have := HKL.out; omega
  go_wp2
  go_loopg [31] K.length (fun gk s31 wr => ∃ j : Nat, s31 = .int .i64 j ∧ j ≤ K.length ∧ K.length - j ≤ gk ∧ ∃ vs, Hid (wr.heap[eb]? = some (.cells #[.int .i64 x1, .int .i64 x2, vs] 51 (0, 0))) ∧ Hid (wr.heap[w.heap.size]? = some (.cells #[.int .i64 0, .int .i64 0, .slice none 0 0] 51 (0, 0))) ∧ Hid (wr.ownsRow w.heap.size 41 3 vs j (flat encV (l.take j))) ∧ Hid (RowKit.Below w.heap.size w wr) ∧ Hid (wr.ownsRow w.heap.size 3 1 (.slice pk K.length ck) K.length (flat encI K)))
  case atStart => exact ⟨0, rfl, Nat.zero_le _, by omega, .slice none 0 0, e2, r2, (by rw [List.take_zero]; exact World.ownsRow_nil _ _ _ _), B2, SK⟩
  case round =>
    obtain ⟨j, rfl, hj, hgk, vs, HE, HR, HO, HB, HS⟩ := hrel
    obtain ⟨⟨e0, e1, e2⟩, g0, g1, g2⟩ := three_cells HE.out
    have hle := cell_lt e0
    obtain ⟨⟨r0, r1, r2⟩, z0, z1, z2⟩ := three_cells HR.out
    have hlr := cell_lt r0
    have hne : ¬ eb = w.heap.size := by omega
    have hne2 : ¬ w.heap.size = eb := by omega
    by_cases hjn : j < K.length
    · obtain ⟨pv, cv, hvs, _, _, _⟩ := row_val HO.out
      obtain ⟨p', c', e', _, _, hsk⟩ := row_sl lenI HS.out rfl
      obtain ⟨gk', ok', e3, hgl, hcells⟩ := hsk (by omega)
      simp only [Value.slice.injEq] at e'
      obtain ⟨rfl, _, rfl⟩ := e'
      subst e3
      have d1 := atI hcells hjn
      have hmem : K[j]! ∈ K := by rw [getElem!_pos K j hjn]; exact List.getElem_mem hjn
      have hyl : fndV l K[j]! = l[j]! ∧ j < l.length := by
        have hlen : l.length = K.length := by rw [← HV.out, List.length_map]
        refine ⟨?_, by omega⟩
        have e1 : (K.map fun k => fndV l k)[j]! = fndV l K[j]! := by rw [getElem!_pos _ j (by simpa using hjn), List.getElem_map, getElem!_pos K j hjn]
        rw [HV.out] at e1
        exact e1.symm
      have hkk := (kindB_iff _).1 (HKK.out _ hmem)
      obtain ⟨g, hg⟩ : ∃ g, f K[j]! = some g := Option.isSome_iff_exists.1 (by rw [HF.out]; exact decide_eq_true hmem)
      have hm := (HT.out.below HB.out).map.look K[j]! (WalkArith.wf_i64 (by omega))
      rw [hg] at hm
      dsimp only [ptrV] at hm
      have FG := Lib.hid (HG.out wr K[j]! g hg HB.out)
      rw [hyl.1] at FG
      unfold aggV at FG
      have hst := Lib.hid (take_snoc l hyl.2)
      have hll : (l.take j).length = j := by rw [List.length_take]; omega
      have HLL := Lib.hid hll
      generalize l[j]! = y at *
      obtain ⟨y1, y2, y3⟩ := y
      dsimp only at FG
      generalize K[j]! = k at *
      obtain ⟨⟨c0, c1, c2⟩, f0, f1, f2⟩ := three_cells (HT.out.below HB.out).head
      have hl := cell_lt c0
      have hj2 : j ≤ 64 := by have := HKL.out; omega
      clear hcells hyl hmem hkk hg hll
      go_wp2_with fail
      refine FG.out.mono ?_
      rintro e w3 ⟨rfl, hb3⟩
      have E3 := blk_below HE.out hb3
      obtain ⟨⟨e0, e1, e2⟩, g0, g1, g2⟩ := three_cells E3
      have hle := cell_lt e0
      have O3 := Lib.hid (row_below HO.out hb3)
      have K3 := Lib.hid (row_below HS.out hb3)
      have R3 := Lib.hid (blk_below HR.out hb3)
      have B3 := Lib.hid (Bt HB.out hb3)
      obtain ⟨W4, hW4⟩ : ∃ W4, W4 = (w3.alloc (.cells #[.int .i64 y1, .int .i64 y2, .int .i64 y3] 41)).alloc (.cells #[.int .i64 y1, .int .i64 y2, .int .i64 y3] 41) := ⟨_, rfl⟩
      have bb : RowKit.Below w3.heap.size w3 W4 := by rw [hW4]; exact Ba (Ba (Below.refl _ _) _) _
      have O4 := Lib.hid (row_below O3.out bb)
      have K4 := Lib.hid (row_below K3.out bb)
      have R4 := Lib.hid (blk_below R3.out bb)
      have E4 := Lib.hid (blk_below E3 bb)
      have B4 := Lib.hid (Bt B3.out bb)
      have S4 := Lib.hid (show Sl encV W4 (.slice (some ⟨w3.heap.size + 1, 0, none⟩) 1 1) [(y1, y2, y3)] by rw [hW4]; exact sl_lit (enc := encV) (w := w3.alloc (.cells #[.int .i64 y1, .int .i64 y2, .int .i64 y3] 41)) (cs := #[.int .i64 y1, .int .i64 y2, .int .i64 y3]) (t := 41) (b := w3.heap.size + 1) [(y1, y2, y3)] (by simp) rfl (by unfold maxLen; simp))
      have LE := Lib.hid (show w.heap.size ≤ W4.heap.size from B4.out.size)
      rw [hW4] at O4 K4 R4 E4 B4 S4 LE
      clear bb hW4 E3 HE HR HO HS O3 K3 R3 hb3 hm d1 c0 c1 c2 f0 f1 f2 hl r0 r1 r2 z0 z1 z2 hlr
      subst hvs
      go_wp2_with (at_builtin; go_loud (refine wpl_app apV rfl _ _ rfl w.heap.size (by rfl) (by rfl) O4.out HLL.out.symm S4.out (by rw [HLL.out]; show j + 1 ≤ 1000000; omega) LE.out ?_; intro v5 w5 hown5 hgrow5 _; replace hown5 : w5.ownsRow w.heap.size 41 3 v5 (j + 1) (flat encV (l.take j ++ [(y1, y2, y3)])) := (by rw [HLL.out] at hown5; exact hown5); obtain ⟨p5, c5, rfl, _, _, _⟩ := row_val hown5; have E5 := grown_far O4.out hgrow5 E4.out (by decide); obtain ⟨⟨e0, e1, e2⟩, g0, g1, g2⟩ := three_cells E5; have hle := cell_lt e0))
      have R5 := grown_far O4.out hgrow5 R4.out (by decide)
      have K5 := grown_row O4.out hgrow5 K4.out (by decide)
      have B5 := grownB B4.out O4.out hgrow5
      have E6 := heap_setCell_same w5 eb 2 _ _ (.slice p5 (j + 1) c5) E5
      go_roundg (K.length - (j + 1))
      case measure => exact Nat.lt_of_lt_of_le (Nat.sub_lt_sub_left hjn (Nat.lt_succ_self j)) hgk
      case rel =>
        refine ⟨j + 1, by go_num, hjn, Nat.le_refl _, .slice p5 (j + 1) c5, ?_, blk_far R5 hne2 _, ?_, Bs B5 (show w.heap.size ≤ eb from Nat.le_of_lt hre) _, set_row E5 K5 (by decide) _ _⟩
        · show _ = _
          simpa using E6
        · refine set_row E5 ?_ (by decide) _ _
          rw [hst.out]
          exact hown5
    · have hjj : j = K.length := by omega
      have hl' : l.take j = l := List.take_of_length_le (by rw [hjj, ← HV.out, List.length_map]; exact Nat.le_refl _)
      have HLN := Lib.hid (show j = l.length by rw [hjj, ← HV.out, List.length_map])
      have HO' := Lib.hid HO.out
      rw [hl'] at HO'
      obtain ⟨pv, cv, rfl, _, _, _⟩ := row_val HO'.out
      go_wp2
      exact bodyPost_ret (v := .tuple #[.agg #[.int .i64 x1, .int .i64 x2, .slice pv j cv], .nilIface]) (by simp [results, Tryd.results24, go_sem, *]) rfl ⟨_, rfl, HLN.out ▸ set3_row HR.out HO'.out (by decide) _ _ _, Bs (Bs (Bs HB.out (Nat.le_refl _) _) (Nat.le_refl _) _) (Nat.le_refl _) _⟩
end
end Go.Proofs.YtknfmjjlfhfocaaDoor
