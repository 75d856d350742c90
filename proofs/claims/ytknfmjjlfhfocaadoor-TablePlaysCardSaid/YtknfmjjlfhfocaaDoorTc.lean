/-
  The table's calls that only ask: Len, Mask, Handle, Handles, the column of a kind, Get.
-/
import Derived.Test.YtknfmjjlfhfocaaDoorTb
namespace Go.Proofs.YtknfmjjlfhfocaaDoor
set_option linter.unusedSimpArgs false
set_option linter.unusedVariables false
open Go.RowKit Go.Sort Go.Lib Go.Shelf

section
variable {w : World} {M : Nat → Prop} {pt q : Nat} {R : List En} {A : Nat → Addr}
abbrev ptP (pt : Nat) : Value := .pointer (some ⟨pt, 0, none⟩)
theorem tlen_call (h : Tab w M pt q R) : Calls Tryd.prog 22 #[ptP pt] w fun e w' => e = .returned (.int .i64 R.length) ∧ w = w' := by
  obtain ⟨ph, pm, f, hT, _⟩ := h
  obtain ⟨MH, hH⟩ := hT.handles
  have HL := Lib.hid (lenH_call hH)
  rw [List.length_map] at HL
  obtain ⟨⟨c0, c1, c2⟩, f0, f1, f2⟩ := three_cells hT.head
  have hl := cell_lt c0
  clear hT hH
  go_enter Tryd.func22, Tryd.ntmps22
  go_wp2_with fail
  refine HL.out.mono ?_
  rintro e w1 ⟨rfl, rfl⟩
  go_wp2
  go_ret
  exact ⟨rfl, rfl⟩
theorem tmask_call (h : Tab w M pt q R) : Calls Tryd.prog 10 #[ptP pt] w fun e w' => e = .returned (.int .u64 q) ∧ w = w' := by
  obtain ⟨ph, pm, f, hT, _⟩ := h
  obtain ⟨⟨c0, c1, c2⟩, f0, f1, f2⟩ := three_cells hT.head
  have hl := cell_lt c0
  clear hT
  go_enter Tryd.func10, Tryd.ntmps10
  go_wp2
  go_ret
  exact ⟨rfl, rfl⟩
set_option maxHeartbeats 1000000 in
theorem thandle_yes (h : Tab w M pt q R) (n : Nat) (hn : n < R.length) : Calls Tryd.prog 25 #[ptP pt, .int .i64 n] w fun e w' => e = .returned (.tuple #[aggH R[n]!.1, .nilIface]) ∧ RowKit.Below w.heap.size w w' := by
  obtain ⟨ph, pm, f, hT, _⟩ := h
  obtain ⟨MH, hH⟩ := hT.handles
  have HG : Hid (∀ W, RowKit.Below w.heap.size w W → Calls Tryd.prog 52 #[ptP ph, .int .i64 n] W fun e w' => e = .returned (.tuple #[aggH R[n]!.1, .nilIface]) ∧ RowKit.Below W.heap.size W w') := fun W hb => by
    have := getH_yes (hH.below hb) n (by simpa using hn)
    rwa [getElem!_pos (R.map fun r => r.1) n (by simpa using hn), List.getElem_map, ← getElem!_pos R n hn] at this
  obtain ⟨⟨c0, c1, c2⟩, f0, f1, f2⟩ := three_cells hT.head
  have hl := cell_lt c0
  clear hT hH
  unfold aggH at *
  generalize R[n]!.1 = x at *
  obtain ⟨x1, x2⟩ := x
  dsimp only at *
  go_enter Tryd.func25, Tryd.ntmps25
  go_wp2_with fail
  refine (HG.out _ (Ba (Below.refl _ w) _)).mono ?_
  rintro e w1 ⟨rfl, hb1⟩
  have b1 := blk_below (heap_alloc_new w (.cells #[.int .i64 0, .int .i64 0] 38)) hb1
  obtain ⟨r0, r1, r2, r3⟩ := two_cells b1
  have hr := cell_lt r0
  have B1 := Lib.hid (Bt (Ba (Below.refl _ w) (.cells #[.int .i64 0, .int .i64 0] 38)) hb1)
  clear hb1 b1
  go_wp2
  exact bodyPost_ret (v := .tuple #[.agg #[.int .i64 x1, .int .i64 x2], .nilIface]) (by simp [results, Tryd.results25, go_sem, *]) rfl ⟨rfl, Bs (Bs B1.out (Nat.le_refl _) _) (Nat.le_refl _) _⟩
set_option maxHeartbeats 1000000 in
theorem thandle_no (h : Tab w M pt q R) (i : Int) (hn : ¬ (0 ≤ i ∧ i < R.length)) (hE : Er7 w A) : Calls Tryd.prog 25 #[ptP pt, .int .i64 i] w fun e w' => e = .returned (.tuple #[.agg #[.int .i64 0, .int .i64 0], errC A 0]) ∧ RowKit.Below w.heap.size w w' := by
  obtain ⟨ph, pm, f, hT, _⟩ := h
  obtain ⟨MH, hH⟩ := hT.handles
  have HG : Hid (∀ W, RowKit.Below w.heap.size w W → Calls Tryd.prog 52 #[ptP ph, .int .i64 i] W fun e w' => e = .returned (.tuple #[.agg #[.int .i64 0, .int .i64 0], errC A 0]) ∧ RowKit.Below W.heap.size W w') := fun W hb =>
    getH_no (hH.below hb) i (by simpa using hn) _ _ (hE.below hb).er.range
  obtain ⟨⟨c0, c1, c2⟩, f0, f1, f2⟩ := three_cells hT.head
  have hl := cell_lt c0
  clear hT hH hE hn
  unfold errC at *
  generalize A 0 = ea at *
  go_enter Tryd.func25, Tryd.ntmps25
  go_wp2_with fail
  refine (HG.out _ (Ba (Below.refl _ w) _)).mono ?_
  rintro e w1 ⟨rfl, hb1⟩
  have b1 := blk_below (heap_alloc_new w (.cells #[.int .i64 0, .int .i64 0] 38)) hb1
  obtain ⟨r0, r1, r2, r3⟩ := two_cells b1
  have hr := cell_lt r0
  have B1 := Lib.hid (Bt (Ba (Below.refl _ w) (.cells #[.int .i64 0, .int .i64 0] 38)) hb1)
  clear hb1 b1
  go_wp2
  exact bodyPost_ret (v := .tuple #[.agg #[.int .i64 0, .int .i64 0], .iface 141 (.pointer (some ea))]) (by simp [results, Tryd.results25, go_sem, *]) rfl ⟨rfl, Bs (Bs B1.out (Nat.le_refl _) _) (Nat.le_refl _) _⟩
theorem thandles_call (h : Tab w M pt q R) : Calls Tryd.prog 23 #[ptP pt] w fun e w' => ∃ v, e = .returned v ∧ Sl encH w' v (R.map fun r => r.1) ∧ RowKit.Below w.heap.size w w' := by
  have hs := h.size
  obtain ⟨ph, pm, f, hT, _⟩ := h
  obtain ⟨MH, hH⟩ := hT.handles
  have HL := Lib.hid (allH_call hH (by simp; omega))
  obtain ⟨⟨c0, c1, c2⟩, f0, f1, f2⟩ := three_cells hT.head
  have hl := cell_lt c0
  clear hT hH
  go_enter Tryd.func23, Tryd.ntmps23
  go_wp2_with fail
  refine HL.out.mono ?_
  rintro e w1 ⟨v, rfl, ho, hb1⟩
  have S := Lib.hid (row_sl lenH ho rfl)
  clear ho
  go_wp2
  go_ret
  exact ⟨v, rfl, S.out, hb1⟩

/-! ### The column of a kind. -/
set_option maxHeartbeats 2000000 in
theorem tcol_no (h : Tab w M pt q R) (i k : Int) (hn : ¬ (0 ≤ i ∧ i < R.length)) (hE : Er7 w A) : Calls Tryd.prog 44 #[ptP pt, .int .i64 i, .int .i64 k] w fun e w' => e = .returned (.tuple #[.pointer none, errC A 0]) ∧ RowKit.Below w.heap.size w w' := by
  have HH := Lib.hid (thandle_no h i hn hE)
  clear h hn hE
  unfold errC at *
  generalize A 0 = ea at *
  go_enter Tryd.func44, Tryd.ntmps44
  go_wp2_with fail
  refine HH.out.mono ?_
  rintro e w1 ⟨rfl, hb1⟩
  go_wp2
  go_ret2
  exact ⟨rfl, (by repeat (first | with_reducible exact Below.refl _ _ | with_reducible assumption | with_reducible apply Ba | with_reducible apply Bd | with_reducible apply Bn | with_reducible apply Bg | (with_reducible refine Bs ?_ (by first | (simp; done) | (simp; omega)) _) | (with_reducible refine Bt ?_ (by assumption)) | (with_reducible refine Bt ?_ (Gr.below (by assumption)))))⟩
set_option maxHeartbeats 2000000 in
theorem tcol_kind (h : Tab w M pt q R) (n : Nat) (hn : n < R.length) (k : Int) (hk : k ∉ Ks q) (hkw : (Lit.int .i64 k).wf = true) (hE : Er7 w A) : Calls Tryd.prog 44 #[ptP pt, .int .i64 n, .int .i64 k] w fun e w' => e = .returned (.tuple #[.pointer none, errC A 4]) ∧ RowKit.Below w.heap.size w w' := by
  have HH := Lib.hid (thandle_yes h n hn)
  obtain ⟨ph, pm, f, hT, _, hf, _⟩ := h
  have hfk : f k = none := by
    have := hf k
    rw [decide_eq_false hk] at this
    exact Option.isSome_eq_false_iff.1 this |> Option.isNone_iff_eq_none.1
  have HT := Lib.hid hT
  have HE := Lib.hid hE
  clear hT hf hk hE
  unfold aggH errC at *
  generalize R[n]!.1 = x at *
  obtain ⟨x1, x2⟩ := x
  dsimp only at *
  go_enter Tryd.func44, Tryd.ntmps44
  go_wp2_with fail
  refine HH.out.mono ?_
  rintro e w1 ⟨rfl, hb1⟩
  obtain ⟨W, hW⟩ : ∃ W, W = w1.alloc (.cells #[.int .i64 x1, .int .i64 x2] 38) := ⟨_, rfl⟩
  have BW := Lib.hid (show RowKit.Below w.heap.size w W by rw [hW]; exact Ba hb1 _)
  have hm := (HT.out.below BW.out).map.look k hkw
  rw [hfk] at hm
  dsimp only [ptrV] at hm
  obtain ⟨⟨c0, c1, c2⟩, f0, f1, f2⟩ := three_cells (HT.out.below BW.out).head
  have hl := cell_lt c0
  have hE2 := (HE.out.below BW.out).er.kind
  rw [hW] at hm c0 c1 c2 f0 f1 f2 hl hE2
  rw [hW] at BW
  clear hW hfk
  go_wp2_with fail
  go_region
  go_wp2
  go_ret2
  exact ⟨rfl, BW.out.drew⟩
set_option maxHeartbeats 2000000 in
theorem tcol_yes (h : Tab w M pt q R) (n : Nat) (hn : n < R.length) (k : Int) (hkw : (Lit.int .i64 k).wf = true) {ph pm : Nat} {f : Int → Option Nat} (hT : TabM w M pt ph pm q f (R.map fun r => r.1) (colK R)) {g : Nat} (hfk : f k = some g) : Calls Tryd.prog 44 #[ptP pt, .int .i64 n, .int .i64 k] w fun e w' => e = .returned (.tuple #[ptP g, .nilIface]) ∧ RowKit.Below w.heap.size w w' := by
  have HH := Lib.hid (thandle_yes h n hn)
  have HT := Lib.hid hT
  clear hT h
  unfold aggH at *
  generalize R[n]!.1 = x at *
  obtain ⟨x1, x2⟩ := x
  dsimp only at *
  go_enter Tryd.func44, Tryd.ntmps44
  go_wp2_with fail
  refine HH.out.mono ?_
  rintro e w1 ⟨rfl, hb1⟩
  obtain ⟨W, hW⟩ : ∃ W, W = w1.alloc (.cells #[.int .i64 x1, .int .i64 x2] 38) := ⟨_, rfl⟩
  have BW := Lib.hid (show RowKit.Below w.heap.size w W by rw [hW]; exact Ba hb1 _)
  have hm := (HT.out.below BW.out).map.look k hkw
  rw [hfk] at hm
  dsimp only [ptrV] at hm
  obtain ⟨⟨c0, c1, c2⟩, f0, f1, f2⟩ := three_cells (HT.out.below BW.out).head
  have hl := cell_lt c0
  rw [hW] at hm c0 c1 c2 f0 f1 f2 hl
  rw [hW] at BW
  clear hW hfk
  go_wp2
  go_ret2
  exact ⟨rfl, BW.out⟩
end
end Go.Proofs.YtknfmjjlfhfocaaDoor
