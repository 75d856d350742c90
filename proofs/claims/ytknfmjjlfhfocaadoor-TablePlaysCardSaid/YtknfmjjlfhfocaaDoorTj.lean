/-
  The table's Clone: the columns come in whatever order.
-/
import Derived.Test.YtknfmjjlfhfocaaDoorTi
namespace Go.Proofs.YtknfmjjlfhfocaaDoor
set_option linter.unusedSimpArgs false
set_option linter.unusedVariables false
open Go.RowKit Go.Sort Go.Lib Go.Shelf

section
variable {w : World} {M : Nat → Prop} {pt q : Nat} {R : List En}
set_option maxHeartbeats 4000000 in
set_option maxRecDepth 100000 in
theorem tclone_call (h : Tab w M pt q R) : Calls Tryd.prog 21 #[ptP pt] w fun e w' => ∃ pb, e = .returned (ptP pb) ∧ Tab w' (Fresh w w') pb q R ∧ RowKit.Below w.heap.size w w' := by
  have hlen := h.size
  have h0 := h
  obtain ⟨ph, pm, f, hT, hq, hf, hok, hl128⟩ := h
  have HT := Lib.hid hT
  have HV : Hid (∀ W k g, f k = some g → RowKit.Below w.heap.size w W → Calls Tryd.prog 48 #[ptP g] W (ColNew encV 41 3 109 W (colK R k) 128)) := fun W k g hk hb => by
    obtain ⟨MC, hC⟩ := hT.col hk
    exact ccloneV_call (hC.below hb) (by rw [colK_len]; omega)
  have HH : Hid (∀ W, RowKit.Below w.heap.size w W → Calls Tryd.prog 49 #[ptP ph] W (ColNew encH 38 2 111 W (R.map fun r => r.1) 128)) := fun W hb => by
    obtain ⟨MH, hH⟩ := hT.handles
    exact ccloneH_call (hH.below hb) (by simp; omega)
  have HEnd : Hid (∀ W M' pb ph' pm' f', TabM W M' pb ph' pm' q f' (R.map fun r => r.1) (colK R) → (∀ k, (f' k).isSome = (f k).isSome) → Tab W M' pb q R) := fun W M' pb ph' pm' f' hT' e => ⟨ph', pm', f', hT', hq, fun k => by rw [e k]; exact hf k, hok, hl128⟩
  generalize (R.map fun r => r.1) = H at *
  clear h0 hT hq hf hok hl128 hlen
  go_enter Tryd.func21, Tryd.ntmps21
  have hmm := @run_makeMap Tryd.prog
  have B0 := Lib.hid (Ba (Below.refl _ w) (.map #[] 0))
  obtain ⟨⟨c0, c1, c2⟩, f0, f1, f2⟩ := three_cells (HT.out.below B0.out).head
  have hl := cell_lt c0
  have HMo := Lib.hid (HT.out.below B0.out).map
  go_wp2_with (at_range; refine wpl_rangeP rfl _ rfl (by rfl) HMo.out ?_; intro w3 cnt3 hrg3 hg3 hsz3 hcn3)
  have hb3 := grown_below hg3
  have B3 := Lib.hid (Bt B0.out hb3)
  have M3 := Lib.hid ((MapP.made w).below hb3)
  have HRG := Lib.hid hrg3
  have hs1 : (w.alloc (.map #[] 0)).heap.size = w.heap.size + 1 := by simp
  rw [hs1] at HRG hsz3 ⊢
  obtain ⟨pn, hpn⟩ : ∃ pn, pn = w.heap.size := ⟨_, rfl⟩
  obtain ⟨r, hr⟩ : ∃ r, r = w.heap.size + 1 := ⟨_, rfl⟩
  have HPN := Lib.hid hpn
  have HRR := Lib.hid hr
  have HPM := Lib.hid HT.out.map.lt
  rw [← hr] at HRG ⊢
  rw [← hpn] at M3 ⊢
  clear hmm c0 c1 c2 f0 f1 f2 hl HMo B0 hrg3 hg3 hb3 hs1 hpn hr
  have HS3 := Lib.hid hsz3
  clear hsz3
  go_frame
  go_loopw [4] (fun _ wr => ∃ (left : Int → Bool) (cnt n : Nat) (f' : Int → Option Nat), Hid (RngP wr pm r 64 f left cnt) ∧ Hid (MapP wr pn n f') ∧ n + cnt ≤ 64 ∧ Hid (ColsF wr w.heap.size (fun b => b = pn ∨ b = r) f' (colK R)) ∧ Hid (∀ k, (f' k).isSome = ((f k).isSome && !left k)) ∧ Hid (RowKit.Below w.heap.size w wr)) (fun _ wr => wr.rangeLeft pm r)
  case atStart => exact ⟨_, _, 0, _, HRG, M3, by omega, ColsF.none _ _ _ _, (show Hid _ from fun k => by simp), B3⟩
  case round =>
    obtain ⟨left, cnt, n, f', RG, HM, hnc, HC, HF, HB⟩ := hrel
    have nr : ¬ r = pm := RG.out.ne
    go_wp2_with (at_next; refine wpl_nextP rfl _ rfl (by rfl) RG.out ?_ ?_)
    · intro hl0
      obtain ⟨⟨c0, c1, c2⟩, f0, f1, f2⟩ := three_cells (HT.out.below HB.out).head
      have hl := cell_lt c0
      have HE : Hid (∀ k, (f' k).isSome = (f k).isSome) := fun k => by rw [HF.out, hl0 k]; simp
      have HHr := Lib.hid (fun W (hb : RowKit.Below wr.heap.size wr W) => HH.out W (Bt HB.out hb))
      clear hl0
      go_wp2_with fail
      go_region_held3 (fun w' => RowKit.Below wr.heap.size wr w' ∧ ∀ b_1 o, b_1 < wr.heap.size → w'.cell? ⟨b_1, o, none⟩ = wr.cell? ⟨b_1, o, none⟩) (first | exact keep0 _ | exact keepB (by assumption) hb1 | exact keepA (by assumption) _ | assumption) ((go_at_call 49; refine (HHr.out _ (Bd (Below.refl _ wr))).mono ?_; rintro e w1 ⟨pb, rfl, hc1, hb1⟩; have HC1 := Lib.hid hc1; clear hc1))
      all_goals
        have HTM := Lib.hid (tab_made (q := q) (Z := fun b => b = pn ∨ b = r) (HB.out.drew) ((HM.out.below (Bd (Below.refl _ _))).mono (show n ≤ 64 by omega)) (by rw [HPN.out]; exact Nat.le_refl _) (.inl rfl) (HC.out.below (Bd (Below.refl _ _))) hb1 HC1.out)
        have B5 := Lib.hid (Ba (Bt (HB.out.drew) hb1) (.cells #[.pointer (some ⟨pb, 0, none⟩), .map (some pn), .int .u64 q] 90))
        clear hb1 HC1
        go_wp2
        go_ret
        exact ⟨_, rfl, HEnd.out _ _ _ _ _ _ HTM.out HE.out, B5.out⟩
    · intro k g w4 cnt4 hkw hlk hfk hrg4 hlt4 hg4 hsz4 hen4
      have t4 : Tch (fun b => b = r) wr w4 := tch_grown hg4 rfl
      have HM4 := Lib.hid (HM.out.blk (t4.block pn HM.out.lt (fun e => by have := HPN.out; have := HRR.out; omega)))
      have HC4 := Lib.hid (HC.out.kept t4 (fun b e => .inl (.inr e)))
      have B4 := Lib.hid (show RowKit.Below w.heap.size w w4 from (bel_map HB.out hg4 (by rw [HRR.out]; omega)))
      have RG4 := Lib.hid hrg4
      have HLF := Lib.hid RG.out.left_eq
      have FC := Lib.hid (HV.out w4 k g hfk B4.out)
      clear hg4 hrg4 t4
      go_wp2_with fail
      refine FC.out.mono ?_
      rintro e w5 ⟨pb, rfl, hc5, hb5⟩
      have M5 := Lib.hid (HM4.out.below hb5)
      have C5 := Lib.hid (HC4.out.add (k := k) hb5 hc5 B4.out.size (fun b e => e.elim (fun e => by rw [e]; exact HM4.out.lt) (fun e => by rw [e]; exact RG4.out.lt)))
      have RG5 := Lib.hid (RG4.out.kept (M := fun _ => False) (Tch.of hb5) id id)
      have B5 := Lib.hid (Bt B4.out hb5)
      clear hb5 hc5
      have HN := Lib.hid (show n < 1000 by omega)
      go_wp2_with (at_mapUpdate; refine wpl_putP rfl _ _ _ rfl (by rfl) M5.out HN.out k (by rfl) hkw pb (by rfl) ?_; intro w6 hm6 hg6)
      have t6 := tch_one hg6
      have RG6 := RG5.out.kept t6 (fun e => by have := HPM.out; have := HPN.out; omega) (fun e => by have := HPN.out; have := HRR.out; omega)
      go_frame
      go_roundw
      case measure => rw [RG6.left_eq, HLF.out]; exact hlt4
      case rel =>
        refine ⟨_, _, n + 1, _, RG6, hm6, by omega, (show Hid _ from C5.out.kept t6 (fun b e => .inl (.inl e))), (show Hid _ from fun y => ?_), (show Hid _ from bel_map B5.out hg6 (by rw [HPN.out]; exact Nat.le_refl _))⟩
        show (if y = k then some pb else f' y).isSome = ((f y).isSome && !(left y && !decide (y = k)))
        by_cases c : y = k
        · subst c; simp [hfk]
        · rw [if_neg c, HF.out]; simp [c]
end
end Go.Proofs.YtknfmjjlfhfocaaDoor
