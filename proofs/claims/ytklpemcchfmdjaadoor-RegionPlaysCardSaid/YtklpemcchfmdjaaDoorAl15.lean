/-
  The statements' start: regions of the law's own, the listed errors, the chapter's example.
-/
import Derived.Test.YtklpemcchfmdjaaDoorCk15
namespace Go.Proofs.YtklpemcchfmdjaaDoor
set_option linter.unusedSimpArgs false
set_option linter.unusedVariables false
open Go.RowKit Go.Sort Go.Lib Go.Shelf

structure Er4 (w : World) (r b s f : TypeId × Value) : Prop where
  eR : w.cell? ⟨1, 0, none⟩ = some (.iface r.1 r.2)
  eB : w.cell? ⟨7, 0, none⟩ = some (.iface b.1 b.2)
  eS : w.cell? ⟨6, 0, none⟩ = some (.iface s.1 s.2)
  eF : w.cell? ⟨0, 0, none⟩ = some (.iface f.1 f.2)
theorem Er4.below {w w' : World} {r b s f : TypeId × Value} (h : Er4 w r b s f) (hb : RowKit.Below w.heap.size w w') : Er4 w' r b s f :=
  ⟨Bc hb (cell_lt h.eR) h.eR, Bc hb (cell_lt h.eB) h.eB, Bc hb (cell_lt h.eS) h.eS, Bc hb (cell_lt h.eF) h.eF⟩
/-- The grid's block. -/
def GrAt (w : World) (b : Nat) (g : Gd) : Prop := w.heap[b]? = some (.cells #[.int .i64 g.w, .int .i64 g.h, .int .i64 g.s, .int .i64 g.x, .int .i64 g.y] 23 (0, 0))
theorem GrAt.lt {w : World} {b : Nat} {g : Gd} (h : GrAt w b g) : b < w.heap.size := (Array.getElem?_eq_some_iff.1 h).1
theorem GrAt.below {w w' : World} {b : Nat} {g : Gd} (h : GrAt w b g) (k : RowKit.Below w.heap.size w w') : GrAt w' b g := blk_below h k
theorem GrAt.kept {w w' : World} {b : Nat} {g : Gd} {M : Nat → Prop} (h : GrAt w b g) (t : Tch M w w') (hn : ¬ M b) : GrAt w' b g := t.blk h hn
theorem GrAt.cells {w : World} {b : Nat} {g : Gd} (h : GrAt w b g) : w.cell? ⟨b, 0, none⟩ = some (.int .i64 g.w) ∧ w.cell? ⟨b, 1, none⟩ = some (.int .i64 g.h) ∧ w.cell? ⟨b, 2, none⟩ = some (.int .i64 g.s) ∧ w.cell? ⟨b, 3, none⟩ = some (.int .i64 g.x) ∧ w.cell? ⟨b, 4, none⟩ = some (.int .i64 g.y) := cells5 h
/-- Regions of the law's own, behind W0. -/
def RgO (W0 : World) (g : Gd) (pa : Nat) (b : List Bool) (wx : World) : Prop := ∃ M, RgAt wx M pa g b ∧ (∀ k, M k → W0.heap.size ≤ k ∧ k < wx.heap.size) ∧ RowKit.Below W0.heap.size W0 wx
theorem RgO.below {W0 wx w' : World} {g : Gd} {pa : Nat} {b : List Bool} (h : RgO W0 g pa b wx) (hb : RowKit.Below wx.heap.size wx w') : RgO W0 g pa b w' := by
  obtain ⟨M, h1, h2, h3⟩ := h
  exact ⟨M, h1.below hb, fun k e => ⟨(h2 k e).1, Nat.lt_of_lt_of_le (h2 k e).2 hb.size⟩, Bt h3 hb⟩
theorem RgO.lo {W0 wx : World} {g : Gd} {pa : Nat} {b : List Bool} (h : RgO W0 g pa b wx) : RowKit.Below W0.heap.size W0 wx := h.choose_spec.2.2
theorem RgO.len {W0 wx : World} {g : Gd} {pa : Nat} {b : List Bool} (h : RgO W0 g pa b wx) : b.length = ntl g := h.choose_spec.1.len
/-- One tile is blocked, by a literal of its own. -/
theorem RgO.block1 {W0 wx : World} {g : Gd} {pa : Nat} {b : List Bool} (h : RgO W0 g pa b wx) (t : Int) (eR eB : TypeId × Value) (hR : W0.cell? ⟨1, 0, none⟩ = some (.iface eR.1 eR.2)) (hB : W0.cell? ⟨7, 0, none⟩ = some (.iface eB.1 eB.2)) :
    Calls Tryd.prog 14 #[psR pa, .slice (some ⟨wx.heap.size, 0, none⟩) 1 1] (wx.alloc (.cells #[.int .i64 t] 3)) fun e w' => e = .returned (errT3 eR eB (askT b [t] false 8)) ∧ RgO W0 g pa (changeT b [t] false 8) w' := by
  obtain ⟨M, h1, h2, h3⟩ := h
  have bX := Ba (Below.refl _ wx) (.cells #[.int .i64 t] 3)
  have hlo := Bt h3 bX
  refine (block_call (h1.below bX) (fun k e => by have := (h2 k e).2; simp; omega) [t] _ (sl_lit (enc := encI) (w := wx) (cs := #[.int .i64 t]) (t := 3) (b := wx.heap.size) [t] rfl rfl (by unfold maxLen; simp)) (by simp) (fun k e f => by
    simp only [Value.ownBlock, Option.some.injEq] at e
    have := (h2 k f).2
    omega) eR eB (Bc hlo (cell_lt hR) hR) (Bc hlo (cell_lt hB) hB)).mono fun e w' ⟨he, hr, ht⟩ => ⟨he, _, hr, fun k e => ?_, hlo.trans (Tch.below ht (fun k e => (h2 k e).1) hlo.size)⟩
  rcases e with e | e
  · exact ⟨(h2 k e).1, by have := (h2 k e).2; have := ht.size; simp at this; omega⟩
  · exact ⟨Nat.le_trans hlo.size e.1, e.2⟩
/-- One tile is freed, by a literal of its own. -/
theorem RgO.free1 {W0 wx : World} {g : Gd} {pa : Nat} {b : List Bool} (h : RgO W0 g pa b wx) (t : Int) (eR eB : TypeId × Value) (hR : W0.cell? ⟨1, 0, none⟩ = some (.iface eR.1 eR.2)) (hB : W0.cell? ⟨6, 0, none⟩ = some (.iface eB.1 eB.2)) :
    Calls Tryd.prog 15 #[psR pa, .slice (some ⟨wx.heap.size, 0, none⟩) 1 1] (wx.alloc (.cells #[.int .i64 t] 3)) fun e w' => e = .returned (errT3 eR eB (askT b [t] true 6)) ∧ RgO W0 g pa (changeT b [t] true 6) w' := by
  obtain ⟨M, h1, h2, h3⟩ := h
  have bX := Ba (Below.refl _ wx) (.cells #[.int .i64 t] 3)
  have hlo := Bt h3 bX
  refine (rgfree_call (h1.below bX) (fun k e => by have := (h2 k e).2; simp; omega) [t] _ (sl_lit (enc := encI) (w := wx) (cs := #[.int .i64 t]) (t := 3) (b := wx.heap.size) [t] rfl rfl (by unfold maxLen; simp)) (by simp) (fun k e f => by
    simp only [Value.ownBlock, Option.some.injEq] at e
    have := (h2 k f).2
    omega) eR eB (Bc hlo (cell_lt hR) hR) (Bc hlo (cell_lt hB) hB)).mono fun e w' ⟨he, hr, ht⟩ => ⟨he, _, hr, fun k e => ?_, hlo.trans (Tch.below ht (fun k e => (h2 k e).1) hlo.size)⟩
  rcases e with e | e
  · exact ⟨(h2 k e).1, by have := (h2 k e).2; have := ht.size; simp at this; omega⟩
  · exact ⟨Nat.le_trans hlo.size e.1, e.2⟩
theorem freeN_le (L : List Int) (k : Nat) : freeN L k ≤ k := by
  unfold freeN
  exact Nat.le_trans (List.length_filter_le _ _) (by rw [List.length_take]; omega)
theorem rootN_le (L : List Int) (k : Nat) : rootN L k ≤ k := by
  unfold rootN
  exact Nat.le_trans (List.length_filter_le _ _) (by simp)
theorem lowN_le (L : List Int) (k : Int) : lowN L k ≤ L.length := by
  unfold lowN
  exact List.length_filter_le _ _
theorem er4_of {w : World} {A : Nat → Addr} (hR : w.cell? ⟨1, 0, none⟩ = some (.iface 114 (.pointer (some (A 0))))) (hB : w.cell? ⟨7, 0, none⟩ = some (.iface 114 (.pointer (some (A 7))))) (hS : w.cell? ⟨6, 0, none⟩ = some (.iface 114 (.pointer (some (A 5))))) (hF : w.cell? ⟨0, 0, none⟩ = some (.iface 114 (.pointer (some (A 6))))) :
    Er4 w (114, .pointer (some (A 0))) (114, .pointer (some (A 7))) (114, .pointer (some (A 5))) (114, .pointer (some (A 6))) := ⟨hR, hB, hS, hF⟩
theorem al_grid : grOk ⟨3, 1, 1, 0, 0⟩ = true := by decide
theorem al_ntl : ntl ⟨3, 1, 1, 0, 0⟩ = 3 := by decide
theorem al_nots : nots 3 = [false, false, false] := rfl
theorem al_mid : labG ⟨3, 1, 1, 0, 0⟩ [false, true, false] = [0, -1, 2] := by
  have hn := grG_n al_grid [false, true, false]
  rw [al_ntl] at hn
  have hb := grG_bl al_grid [false, true, false]
  have hx := grG_nx al_grid [false, true, false]
  unfold labG
  generalize grG ⟨3, 1, 1, 0, 0⟩ [false, true, false] = G at *
  refine (labs_of (by rw [hn]; rfl) (fun t ht h => ?_) (fun t ht => ?_)).symm
  · rw [hn] at ht
    rw [hb] at h
    have : t = 0 ∨ t = 1 ∨ t = 2 := by omega
    rcases this with rfl | rfl | rfl
    · cases h
    · rfl
    · cases h
  · obtain ⟨h1, h2⟩ := ht
    have ht : G.fr t := ⟨h1, h2⟩
    rw [hn] at h1
    rw [hb] at h2
    have : t = 0 ∨ t = 1 ∨ t = 2 := by omega
    rcases this with rfl | rfl | rfl
    · exact ⟨0, rfl, .one ht, fun u _ => Nat.zero_le u⟩
    · cases h2
    · refine ⟨2, rfl, .one ht, fun u hu => ?_⟩
      cases hu with
      | one _ => exact Nat.le_refl _
      | step a k c =>
        rw [hx] at k
        have hk := mem_next.1 k
        rw [al_ntl] at hk
        have := c.left.2
        rw [hb] at this
        simp at hk
        subst hk
        cases this
theorem al_end : labG ⟨3, 1, 1, 0, 0⟩ [false, false, false] = [0, 0, 0] := by
  have := labG_free al_grid
  rw [al_ntl, al_nots] at this
  exact this
set_option maxHeartbeats 4000000 in
set_option maxRecDepth 100000 in
theorem alive_call (w : World) {r b s f : TypeId × Value} (hE : Er4 w r b s f) : Calls Tryd.prog 7 #[] w fun e w' => e = .returned (.bool true) ∧ RowKit.Below w.heap.size w w' := by
  have HE := Lib.hid hE
  have NC := Lib.hid (rgnew_call ⟨3, 1, 1, 0, 0⟩ w al_grid)
  rw [al_ntl, al_nots] at NC
  clear hE
  go_enter Tryd.func7, Tryd.ntmps7
  go_wp2_with fail
  refine NC.out.mono ?_
  rintro e w1 ⟨pa, rfl, hr1, hb1⟩
  have R1 := Lib.hid (show RgO w ⟨3, 1, 1, 0, 0⟩ pa [false, false, false] w1 from ⟨_, hr1, fun k e => e.elim (fun e => e.elim) (fun e => e), hb1⟩)
  have BC := Lib.hid (R1.out.block1 1 _ _ HE.out.eR HE.out.eB)
  rw [show askT [false, false, false] [1] false 8 = 0 by decide, show changeT [false, false, false] [1] false 8 = [false, true, false] by decide] at BC
  rw [show errT3 r b 0 = .nilIface from rfl] at BC
  clear hr1 hb1
  unfold psR at *
  go_wp2_with fail
  refine BC.out.mono ?_
  rintro e w2 ⟨rfl, hr2⟩
  have R2 := Lib.hid hr2
  clear hr2 BC
  have LB := Lib.hid (by obtain ⟨M, h1, h2, h3⟩ := R2.out; exact labels_call h1)
  rw [al_mid] at LB
  unfold psR at LB
  go_wp2_with fail
  refine LB.out.mono ?_
  rintro e w3 ⟨v3, rfl, ho3, hb3⟩
  have R3 := Lib.hid (R2.out.below hb3)
  have S3 := Lib.hid ((row_sl lenI ho3 rfl).below (Ba (Below.refl _ w3) (.cells #[.int .i64 0, .int .i64 (-1), .int .i64 2] 3)))
  have L3 := Lib.hid (sl_lit (enc := encI) (w := w3) (cs := #[.int .i64 0, .int .i64 (-1), .int .i64 2]) (t := 3) (b := w3.heap.size) [0, -1, 2] rfl rfl (by unfold maxLen; simp))
  have SC := Lib.hid (sameInts_call [0, -1, 2] [0, -1, 2] _ _ _ S3.out L3.out)
  rw [show decide (([0, -1, 2] : List Int) = [0, -1, 2]) = true from by decide] at SC
  obtain ⟨p3, c3, rfl, -, -, -⟩ := row_val ho3
  clear ho3 hb3 LB
  go_wp2_with fail
  refine SC.out.mono ?_
  rintro e w4 ⟨rfl, hg4⟩
  have R4 := Lib.hid ((R3.out.below (Ba (Below.refl _ w3) (.cells #[.int .i64 0, .int .i64 (-1), .int .i64 2] 3))).below hg4.below)
  clear hg4 SC S3 L3
  have FC := Lib.hid (R4.out.free1 1 _ _ HE.out.eR HE.out.eS)
  rw [show askT [false, true, false] [1] true 6 = 0 by decide, show changeT [false, true, false] [1] true 6 = [false, false, false] by decide] at FC
  rw [show errT3 r s 0 = .nilIface from rfl] at FC
  unfold psR at FC
  go_wp2_with fail
  refine FC.out.mono ?_
  rintro e w5 ⟨rfl, hr5⟩
  have R5 := Lib.hid hr5
  have LB := Lib.hid (by obtain ⟨M, h1, h2, h3⟩ := R5.out; exact labels_call h1)
  rw [al_end] at LB
  unfold psR at LB
  clear hr5 FC
  go_wp2_with fail
  refine LB.out.mono ?_
  rintro e w6 ⟨v6, rfl, ho6, hb6⟩
  have R6 := Lib.hid (R5.out.below hb6)
  have S6 := Lib.hid ((row_sl lenI ho6 rfl).below (Ba (Below.refl _ w6) (.cells #[.int .i64 0, .int .i64 0, .int .i64 0] 3)))
  have L6 := Lib.hid (sl_lit (enc := encI) (w := w6) (cs := #[.int .i64 0, .int .i64 0, .int .i64 0]) (t := 3) (b := w6.heap.size) [0, 0, 0] rfl rfl (by unfold maxLen; simp))
  have SC := Lib.hid (sameInts_call [0, 0, 0] [0, 0, 0] _ _ _ S6.out L6.out)
  rw [show decide (([0, 0, 0] : List Int) = [0, 0, 0]) = true from by decide] at SC
  obtain ⟨p6, c6, rfl, -, -, -⟩ := row_val ho6
  clear ho6 hb6 LB
  go_wp2_with fail
  refine SC.out.mono ?_
  rintro e w7 ⟨rfl, hg7⟩
  have R7 := Lib.hid ((R6.out.below (Ba (Below.refl _ w6) (.cells #[.int .i64 0, .int .i64 0, .int .i64 0] 3))).below hg7.below)
  clear hg7
  go_wp2
  go_ret
  exact ⟨rfl, R7.out.lo⟩
end Go.Proofs.YtklpemcchfmdjaaDoor
