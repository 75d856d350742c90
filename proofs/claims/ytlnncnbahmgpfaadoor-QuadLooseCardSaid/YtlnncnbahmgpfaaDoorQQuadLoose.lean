import Derived.Test.YtlnncnbahmgpfaaDoorZ25
import Derived.Deep.RegionHeld3
import Derived.Test.YtlnncnbahmgpfaaDoorZ13

/-
  The walk of QuadLoose.
-/
namespace Go.Proofs.YtlnncnbahmgpfaaDoor
set_option linter.unusedSimpArgs false
set_option linter.unusedVariables false
open Go.RowKit Go.Sort Go.Lib Go.Shelf

set_option maxHeartbeats 4000000 in
set_option maxRecDepth 100000 in
theorem quadLoose_walk (c1 c2 c3 : Int) (W : World) {A : Nat → Addr} (hE : Errs W A) :
    Calls Tryd.prog 4 #[clV (c1, c2, c3)] W fun e w' => e = .returned (.bool true) ∧ RowKit.Below W.heap.size W w' := by
  have HE := Lib.hid hE
  have AL := Lib.hid (fun w (hb : RowKit.Below W.heap.size W w) => alive_any w ((Er3.of hE).below hb))
  have QN := Lib.hid (fun w (hb : RowKit.Below W.heap.size W w) (hr : rightC (c1, c2, c3) = false) => qLoose_no c1 c2 c3 w hr ((Er3.of hE).below hb))
  have QU := Lib.hid (fun w => qUp_call c1 c2 c3 w)
  have RR := Lib.hid (fun w => rRight_call c1 c2 c3 w)
  have bA := Ba (Below.refl _ W) (.cells #[.int .i64 c1, .int .i64 c2, .int .i64 c3] 26)
  have HX := Lib.hid (cells3' (w := W) (t := 26) (a1 := .int .i64 c1) (a2 := .int .i64 c2) (a3 := .int .i64 c3))
  have hsl : W.heap.size < (W.alloc (.cells #[.int .i64 c1, .int .i64 c2, .int .i64 c3] 26)).heap.size := by simp
  clear hE
  cases hr : rightC (c1, c2, c3)
  · rw [hr] at QU RR
    simp only [Bool.false_and, Bool.false_eq_true, if_false] at QU
    have eB := fun W => eqB_run (0, 0, 0, 0) (0, 0, 0, 0) W
    have eQ := fun W => eqQ_run (0, 0, 0) (0, 0, 0) W
    have gb := gdB_run
    have gq := gdQ_run
    unfold clV at eQ
    unfold bxV at eB
    simp only [decide_true] at eQ eB
    have QN2 := Lib.hid (fun w hb => QN.out w hb hr)
    have NU := Lib.hid (fun w (hb : RowKit.Below W.heap.size W w) => num_range (HE.out.below hb))
    clear QN hr
    go_enter Tryd.func4, Tryd.ntmps4
    go_wp2_with fail
    refine (AL.out _ bA).mono ?_
    rintro e w1 ⟨rfl, hb1⟩
    have B1 := Lib.hid (Bt bA hb1)
    have y1 := Bc hb1 hsl HX.out.1
    have y2 := Bc hb1 hsl HX.out.2.1
    have y3 := Bc hb1 hsl HX.out.2.2
    have hy := cell_lt y1
    clear hb1 bA hsl HX AL
    go_wp2_with fail
    refine (QN2.out _ B1.out).mono ?_
    rintro e w2 ⟨rfl, hb2⟩
    have bB := Ba (Below.refl _ w2) (.cells #[.int .i64 0, .int .i64 0, .int .i64 0, .int .i64 0] 23)
    replace y1 := Bc bB (Bl hb2 hy) (Bc hb2 hy y1)
    replace y2 := Bc bB (Bl hb2 hy) (Bc hb2 hy y2)
    replace y3 := Bc bB (Bl hb2 hy) (Bc hb2 hy y3)
    have hy2 := cell_lt y1
    have B2 := Lib.hid (Bt (Bt B1.out hb2) bB)
    have HL := Lib.hid (cells4 (heap_alloc_new w2 (.cells #[.int .i64 0, .int .i64 0, .int .i64 0, .int .i64 0] 23)))
    have hl2 : w2.heap.size < (w2.alloc (.cells #[.int .i64 0, .int .i64 0, .int .i64 0, .int .i64 0] 23)).heap.size := by simp
    clear hb2 bB B1 QN2 hy
    go_wp2_with fail
    refine (QU.out _).mono ?_
    rintro e w3 ⟨rfl, hb3⟩
    have bC := Ba (Below.refl _ w3) (.cells #[.int .i64 0, .int .i64 0, .int .i64 0] 26)
    have HU := Lib.hid (cells3' (w := w3) (t := 26) (a1 := .int .i64 0) (a2 := .int .i64 0) (a3 := .int .i64 0))
    replace y1 := Bc bC (Bl hb3 hy2) (Bc hb3 hy2 y1)
    replace y2 := Bc bC (Bl hb3 hy2) (Bc hb3 hy2 y2)
    replace y3 := Bc bC (Bl hb3 hy2) (Bc hb3 hy2 y3)
    have hy3 := cell_lt y1
    have l1 := Bc bC (Bl hb3 hl2) (Bc hb3 hl2 HL.out.1)
    have l2 := Bc bC (Bl hb3 hl2) (Bc hb3 hl2 HL.out.2.1)
    have l3 := Bc bC (Bl hb3 hl2) (Bc hb3 hl2 HL.out.2.2.1)
    have l4 := Bc bC (Bl hb3 hl2) (Bc hb3 hl2 HL.out.2.2.2)
    have hl3 := cell_lt l1
    have hu3 : w3.heap.size < (w3.alloc (.cells #[.int .i64 0, .int .i64 0, .int .i64 0] 26)).heap.size := by simp
    have B3 := Lib.hid (Bt (Bt B2.out hb3) bC)
    have HLL := Lib.hid (And.intro l1 (And.intro l2 (And.intro l3 l4)))
    clear hb3 bC B2 QU hy2 HL hl2 l1 l2 l3 l4
    go_wp2_with fail
    refine (RR.out _).mono ?_
    rintro e w4 ⟨rfl, hb4⟩
    have bD := Bt (Ba (Below.refl _ (w3.alloc (.cells #[.int .i64 0, .int .i64 0, .int .i64 0] 26))) (.cells #[.int .i64 c1, .int .i64 c2, .int .i64 c3] 31)) hb4
    have l1 := Bc bD hl3 HLL.out.1
    have l2 := Bc bD hl3 HLL.out.2.1
    have l3 := Bc bD hl3 HLL.out.2.2.1
    have l4 := Bc bD hl3 HLL.out.2.2.2
    have u1 := Bc bD hu3 HU.out.1
    have u2 := Bc bD hu3 HU.out.2.1
    have u3 := Bc bD hu3 HU.out.2.2
    have hl4 := cell_lt l1
    have hu4 := cell_lt u1
    have B4 := Lib.hid (Bt B3.out bD)
    clear hb4 bD B3 RR HLL HU hl3 hu3 y1 y2 y3 hy3
    go_wp2_with fail
    refine (NU.out _ B4.out).mono ?_
    rintro e w5 ⟨rfl, hb5⟩
    replace u1 := Bc hb5 hu4 u1
    replace u2 := Bc hb5 hu4 u2
    replace u3 := Bc hb5 hu4 u3
    have hu5 := cell_lt u1
    have B5 := Lib.hid (Bt B4.out hb5)
    clear hb5 B4 l1 l2 l3 l4 hl4 hu4 NU
    go_wp2
    go_ret
    exact ⟨by simp, B5.out⟩
  · obtain ⟨k, rfl, hk8, hp2, hp3, hq2, hq3⟩ := right_parts hr
    have QL := Lib.hid (fun w => qLoose_call (k : Int) c2 c3 w hr)
    have RL := Lib.hid (fun w => rLoose_call (k : Int) c2 c3 hr w)
    have UR := Lib.hid (fun (h : 0 < (k : Int)) => up_right hr h)
    have IU := Lib.hid (fun (h : 0 < (k : Int)) => in_up hr h)
    have QL2 := Lib.hid (fun w (h : 0 < (k : Int)) => qLoose_call ((k : Int) - 1) (c2 / 2) (c3 / 2) w (up_right hr h))
    rw [hr] at QU RR
    simp only [Bool.true_and] at QU
    have hdep : (k : Int) ≤ 8 := by omega
    obtain ⟨_, _, _, pw1, pw2⟩ := side_pw hk8
    have hr2 : c2 ≤ 255 := by omega
    have hr3 : c3 ≤ 255 := by omega
    clear hq2 hq3 pw1 pw2
    generalize hlo : looseC ((k : Int), c2, c3) = lb at *
    obtain ⟨m1, m2, m3, m4⟩ := lb
    have nB := fun W => neB_run (m1, m2, m3, m4) (m1, m2, m3, m4) W
    have gb := gdB_run
    unfold bxV at nB
    simp only [decide_true, Bool.not_true] at nB
    have HIU : Hid (0 < (k : Int) → (looseC ((k : Int) - 1, c2 / 2, c3 / 2)).1 ≤ m1 ∧ (looseC ((k : Int) - 1, c2 / 2, c3 / 2)).2.1 ≤ m2 ∧ m3 ≤ (looseC ((k : Int) - 1, c2 / 2, c3 / 2)).2.2.1 ∧ m4 ≤ (looseC ((k : Int) - 1, c2 / 2, c3 / 2)).2.2.2) := fun h => IU.out h
    have eQ := fun W => eqQ_run (0, 0, 0) (0, 0, 0) W
    have gq := gdQ_run
    unfold clV at eQ
    simp only [decide_true] at eQ
    have hup : Hid (upC ((k : Int), c2, c3) = ((k : Int) - 1, c2 / 2, c3 / 2)) := rfl
    clear QN hr hlo UR IU
    by_cases hc0 : 0 < (k : Int)
    · rw [decide_eq_true hc0] at QU
      rw [if_pos rfl, hup.out] at QU
      have QL3 := Lib.hid (fun w => QL2.out w hc0)
      obtain ⟨i1, i2, i3, i4⟩ := HIU.out hc0
      generalize looseC ((k : Int) - 1, c2 / 2, c3 / 2) = lu at *
      obtain ⟨n1, n2, n3, n4⟩ := lu
      dsimp only at i1 i2 i3 i4
      clear QL2 HIU hup
      go_enter Tryd.func4, Tryd.ntmps4
      go_wp2_with fail
      refine (AL.out _ bA).mono ?_
      rintro e w1 ⟨rfl, hb1⟩
      have B1 := Lib.hid (Bt bA hb1)
      have y1 := Bc hb1 hsl HX.out.1
      have y2 := Bc hb1 hsl HX.out.2.1
      have y3 := Bc hb1 hsl HX.out.2.2
      have hy := cell_lt y1
      clear hb1 bA hsl HX AL
      go_wp2_with fail
      refine (QL.out _).mono ?_
      rintro e w2 ⟨rfl, hb2⟩
      have bB := Ba (Below.refl _ w2) (.cells #[.int .i64 m1, .int .i64 m2, .int .i64 m3, .int .i64 m4] 23)
      replace y1 := Bc bB (Bl hb2 hy) (Bc hb2 hy y1)
      replace y2 := Bc bB (Bl hb2 hy) (Bc hb2 hy y2)
      replace y3 := Bc bB (Bl hb2 hy) (Bc hb2 hy y3)
      have hy2 := cell_lt y1
      have B2 := Lib.hid (Bt (Bt B1.out hb2) bB)
      have HL := Lib.hid (cells4 (heap_alloc_new w2 (.cells #[.int .i64 m1, .int .i64 m2, .int .i64 m3, .int .i64 m4] 23)))
      have hl2 : w2.heap.size < (w2.alloc (.cells #[.int .i64 m1, .int .i64 m2, .int .i64 m3, .int .i64 m4] 23)).heap.size := by simp
      clear hb2 bB B1 QL hy
      go_wp2_with fail
      refine (QU.out _).mono ?_
      rintro e w3 ⟨rfl, hb3⟩
      have bC := Ba (Below.refl _ w3) (.cells #[.int .i64 ((k : Int) - 1), .int .i64 (c2 / 2), .int .i64 (c3 / 2)] 26)
      have HU := Lib.hid (cells3' (w := w3) (t := 26) (a1 := .int .i64 ((k : Int) - 1)) (a2 := .int .i64 (c2 / 2)) (a3 := .int .i64 (c3 / 2)))
      replace y1 := Bc bC (Bl hb3 hy2) (Bc hb3 hy2 y1)
      replace y2 := Bc bC (Bl hb3 hy2) (Bc hb3 hy2 y2)
      replace y3 := Bc bC (Bl hb3 hy2) (Bc hb3 hy2 y3)
      have hy3 := cell_lt y1
      have l1 := Bc bC (Bl hb3 hl2) (Bc hb3 hl2 HL.out.1)
      have l2 := Bc bC (Bl hb3 hl2) (Bc hb3 hl2 HL.out.2.1)
      have l3 := Bc bC (Bl hb3 hl2) (Bc hb3 hl2 HL.out.2.2.1)
      have l4 := Bc bC (Bl hb3 hl2) (Bc hb3 hl2 HL.out.2.2.2)
      have hl3 := cell_lt l1
      have hu3 : w3.heap.size < (w3.alloc (.cells #[.int .i64 ((k : Int) - 1), .int .i64 (c2 / 2), .int .i64 (c3 / 2)] 26)).heap.size := by simp
      have B3 := Lib.hid (Bt (Bt B2.out hb3) bC)
      have HLL := Lib.hid (And.intro y1 (And.intro y2 (And.intro y3 (And.intro l1 (And.intro l2 (And.intro l3 l4))))))
      clear hb3 bC B2 QU hy2 HL hl2 l1 l2 l3 l4
      go_wp2_with fail
      refine (RR.out _).mono ?_
      rintro e w4 ⟨rfl, hb4⟩
      have bR := Ba (Below.refl _ (w3.alloc (.cells #[.int .i64 ((k : Int) - 1), .int .i64 (c2 / 2), .int .i64 (c3 / 2)] 26))) (.cells #[.int .i64 (k : Int), .int .i64 c2, .int .i64 c3] 31)
      have bD := Bt bR hb4
      have HWC := Lib.hid (cells3' (w := w3.alloc (.cells #[.int .i64 ((k : Int) - 1), .int .i64 (c2 / 2), .int .i64 (c3 / 2)] 26)) (t := 31) (a1 := .int .i64 (k : Int)) (a2 := .int .i64 c2) (a3 := .int .i64 c3))
      have hwc : (w3.alloc (.cells #[.int .i64 ((k : Int) - 1), .int .i64 (c2 / 2), .int .i64 (c3 / 2)] 26)).heap.size < ((w3.alloc (.cells #[.int .i64 ((k : Int) - 1), .int .i64 (c2 / 2), .int .i64 (c3 / 2)] 26)).alloc (.cells #[.int .i64 (k : Int), .int .i64 c2, .int .i64 c3] 31)).heap.size := by simp
      clear y1 y2 y3
      have y1 := Bc bD hy3 HLL.out.1
      have y2 := Bc bD hy3 HLL.out.2.1
      have y3 := Bc bD hy3 HLL.out.2.2.1
      have l1 := Bc bD hl3 HLL.out.2.2.2.1
      have l2 := Bc bD hl3 HLL.out.2.2.2.2.1
      have l3 := Bc bD hl3 HLL.out.2.2.2.2.2.1
      have l4 := Bc bD hl3 HLL.out.2.2.2.2.2.2
      have u1 := Bc bD hu3 HU.out.1
      have u2 := Bc bD hu3 HU.out.2.1
      have u3 := Bc bD hu3 HU.out.2.2
      have x1 := Bc hb4 hwc HWC.out.1
      have x2 := Bc hb4 hwc HWC.out.2.1
      have x3 := Bc hb4 hwc HWC.out.2.2
      simp only [World.size_alloc] at x1 x2 x3
      have hy4 := cell_lt y1
      have hl4 := cell_lt l1
      have hu4 := cell_lt u1
      have hx4 := cell_lt x1
      have B4 := Lib.hid (Bt B3.out bD)
      clear hb4 bD bR B3 RR HLL HU HWC hwc hl3 hu3 hy3
      go_wp2_with fail
      have hdk1 : decide (0 < (k : Int)) = true := decide_eq_true hc0
      have hdk2 : decide (0 < k) = true := decide_eq_true (by omega)
      have hdk3 : decide ((k : Int) > 0) = true := decide_eq_true hc0
      refine wp_region_held_drew (S := (fun w' => Below (w4).heap.size (w4) w' ∧ ∀ b_1 o, b_1 < (w4).heap.size → w'.cell? ⟨b_1, o, none⟩ = (w4).cell? ⟨b_1, o, none⟩)) (by kernel_rfl) (keep0 _) (fun hHeld => ?_)
      (refine wpAnyH_take (i := 0) (v := ?_) rfl (by kernel_rfl) (by kernel_rfl) (by kernel_rfl) (fun _ _ _ h => h) (Or.inl ⟨by rfl, ?rt⟩) (by assumption) ?_; case rt => (intro w hSw; (try dsimp only at hSw); go_simp; (try with_reducible rfl))); (try simp only [Act.put, List.getElem_toArray, List.getElem_cons_succ, List.getElem_cons_zero, List.setIfInBounds_toArray, List.set_cons_zero, List.set_cons_succ])
      (refine wpAnyH_take (i := 1) (v := ?_) rfl (by kernel_rfl) (by kernel_rfl) (by kernel_rfl) (fun _ _ _ h => h) (Or.inl ⟨by rfl, ?rt⟩) (by assumption) ?_; case rt => (intro w hSw; (try dsimp only at hSw); go_simp; (try with_reducible rfl))); (try simp only [Act.put, List.getElem_toArray, List.getElem_cons_succ, List.getElem_cons_zero, List.setIfInBounds_toArray, List.set_cons_zero, List.set_cons_succ])
      (refine wpAnyH_take (i := 2) (v := ?_) rfl (by kernel_rfl) (by kernel_rfl) (by kernel_rfl) (fun _ _ _ h => h) (Or.inl ⟨by rfl, ?rt⟩) (by assumption) ?_; case rt => (intro w hSw; (try dsimp only at hSw); go_simp; (try with_reducible rfl))); (try simp only [Act.put, List.getElem_toArray, List.getElem_cons_succ, List.getElem_cons_zero, List.setIfInBounds_toArray, List.set_cons_zero, List.set_cons_succ])
      (refine wpAnyH_take (i := 3) (v := ?_) rfl (by kernel_rfl) (by kernel_rfl) (by kernel_rfl) (fun _ _ _ h => h) (Or.inl ⟨by rfl, ?rt⟩) (by assumption) ?_; case rt => (intro w hSw; (try dsimp only at hSw); go_simp; (try with_reducible rfl))); (try simp only [Act.put, List.getElem_toArray, List.getElem_cons_succ, List.getElem_cons_zero, List.setIfInBounds_toArray, List.set_cons_zero, List.set_cons_succ])
      (refine wpAnyH_take (i := 4) (v := ?_) rfl (by kernel_rfl) (by kernel_rfl) (by kernel_rfl) (fun _ _ _ h => h) (Or.inl ⟨by rfl, ?rt⟩) (by assumption) ?_; case rt => (intro w hSw; (try dsimp only at hSw); go_simp; (try with_reducible rfl))); (try simp only [Act.put, List.getElem_toArray, List.getElem_cons_succ, List.getElem_cons_zero, List.setIfInBounds_toArray, List.set_cons_zero, List.set_cons_succ])
      (refine wpAnyH_ready (rs := [5]) (by kernel_rfl) (by simp) ?_; refine AllReadyH.cons rfl (fun K hK => ?_) AllReadyH.nil; go_simp; refine (RL.out _).mono ?_; rintro e w1 ⟨rfl, hb1⟩; refine hK.out _ _ (keepB (by assumption) hb1) (fun hHeld => ?_); clear hK K); (try simp only [Act.put, List.getElem_toArray, List.getElem_cons_succ, List.getElem_cons_zero, List.setIfInBounds_toArray, List.set_cons_zero, List.set_cons_succ])
      (refine wpAnyH_take (i := 6) (v := ?_) rfl (by kernel_rfl) (by kernel_rfl) (by kernel_rfl) (fun _ _ _ h => h) (Or.inl ⟨by rfl, ?rt⟩) (by assumption) ?_; case rt => (intro w hSw; (try dsimp only at hSw); go_simp; (try with_reducible rfl))); (try simp only [Act.put, List.getElem_toArray, List.getElem_cons_succ, List.getElem_cons_zero, List.setIfInBounds_toArray, List.set_cons_zero, List.set_cons_succ])
      (refine wpAnyH_take (i := 7) (v := ?_) rfl (by kernel_rfl) (by kernel_rfl) (by kernel_rfl) (fun _ _ _ h => h) (Or.inl ⟨by rfl, ?rt⟩) (by assumption) ?_; case rt => (intro w hSw; (try dsimp only at hSw); go_simp; (try with_reducible rfl))); (try simp only [Act.put, List.getElem_toArray, List.getElem_cons_succ, List.getElem_cons_zero, List.setIfInBounds_toArray, List.set_cons_zero, List.set_cons_succ])
      (refine wpAnyH_take (i := 8) (v := ?_) rfl (by kernel_rfl) (by kernel_rfl) (by kernel_rfl) (fun _ _ _ h => h) (Or.inl ⟨by rfl, ?rt⟩) (by assumption) ?_; case rt => (intro w hSw; (try dsimp only at hSw); go_simp; (try with_reducible rfl))); (try simp only [Act.put, List.getElem_toArray, List.getElem_cons_succ, List.getElem_cons_zero, List.setIfInBounds_toArray, List.set_cons_zero, List.set_cons_succ])
      (refine wpAnyH_take (i := 9) (v := ?_) rfl (by kernel_rfl) (by kernel_rfl) (by kernel_rfl) (fun _ _ _ h => h) (Or.inl ⟨by rfl, ?rt⟩) (by assumption) ?_; case rt => (intro w hSw; (try dsimp only at hSw); go_simp; (try with_reducible rfl))); (try simp only [Act.put, List.getElem_toArray, List.getElem_cons_succ, List.getElem_cons_zero, List.setIfInBounds_toArray, List.set_cons_zero, List.set_cons_succ])
      (refine wpAnyH_take (i := 10) (v := ?_) rfl (by kernel_rfl) (by kernel_rfl) (by kernel_rfl) (fun _ _ _ h => h) (Or.inl ⟨by rfl, ?rt⟩) (by assumption) ?_; case rt => (intro w hSw; (try dsimp only at hSw); go_simp; (try with_reducible rfl))); (try simp only [Act.put, List.getElem_toArray, List.getElem_cons_succ, List.getElem_cons_zero, List.setIfInBounds_toArray, List.set_cons_zero, List.set_cons_succ])
      (refine wpAnyH_take (i := 11) (v := ?_) rfl (by kernel_rfl) (by kernel_rfl) (by kernel_rfl) (fun _ _ _ h => h) (Or.inl ⟨by rfl, ?rt⟩) (by assumption) ?_; case rt => (intro w hSw; (try dsimp only at hSw); go_simp; (try with_reducible rfl))); (try simp only [Act.put, List.getElem_toArray, List.getElem_cons_succ, List.getElem_cons_zero, List.setIfInBounds_toArray, List.set_cons_zero, List.set_cons_succ])
      (refine wpAnyH_take (i := 12) (v := ?_) rfl (by kernel_rfl) (by kernel_rfl) (by kernel_rfl) (fun _ _ _ h => h) (Or.inl ⟨by rfl, ?rt⟩) (by assumption) ?_; case rt => (intro w hSw; (try dsimp only at hSw); go_simp; (try with_reducible rfl))); (try simp only [Act.put, List.getElem_toArray, List.getElem_cons_succ, List.getElem_cons_zero, List.setIfInBounds_toArray, List.set_cons_zero, List.set_cons_succ])
      (try simp only [hdk1, hdk2, hdk3])
      (refine wpAnyH_take (i := 13) (v := ?_) rfl (by kernel_rfl) (by kernel_rfl) (by kernel_rfl) (fun _ _ _ h => h) (Or.inl ⟨by rfl, ?rt⟩) (by assumption) ?_; case rt => (intro w hSw; (try dsimp only at hSw); go_simp; (try with_reducible rfl))); (try simp only [Act.put, List.getElem_toArray, List.getElem_cons_succ, List.getElem_cons_zero, List.setIfInBounds_toArray, List.set_cons_zero, List.set_cons_succ])
      (refine wpAnyH_take (i := 14) (v := ?_) rfl (by kernel_rfl) (by kernel_rfl) (by kernel_rfl) (fun _ _ _ h => h) (Or.inl ⟨by rfl, ?rt⟩) (by assumption) ?_; case rt => (intro w hSw; (try dsimp only at hSw); go_simp; (try with_reducible rfl))); (try simp only [Act.put, List.getElem_toArray, List.getElem_cons_succ, List.getElem_cons_zero, List.setIfInBounds_toArray, List.set_cons_zero, List.set_cons_succ])
      refine wpAnyH_done (by kernel_rfl) ?_ _
      have bE := hHeld.1
      replace y1 := Bc bE hy4 y1
      replace y2 := Bc bE hy4 y2
      replace y3 := Bc bE hy4 y3
      replace l1 := Bc bE hl4 l1
      replace l2 := Bc bE hl4 l2
      replace l3 := Bc bE hl4 l3
      replace l4 := Bc bE hl4 l4
      replace u1 := Bc bE hu4 u1
      replace u2 := Bc bE hu4 u2
      replace u3 := Bc bE hu4 u3
      have hy5 := cell_lt y1
      have hl5 := cell_lt l1
      have hu5 := cell_lt u1
      have B5 := Lib.hid (Bt B4.out bE)
      clear hHeld bE B4 hy4 hl4 hu4 hx4 x1 x2 x3 RL nB gb
      go_wp2_with fail
      refine (QL3.out _).mono ?_
      rintro e w6 ⟨rfl, hb6⟩
      replace y1 := Bc hb6 hy5 y1
      replace y2 := Bc hb6 hy5 y2
      replace y3 := Bc hb6 hy5 y3
      replace l1 := Bc hb6 hl5 l1
      replace l2 := Bc hb6 hl5 l2
      replace l3 := Bc hb6 hl5 l3
      replace l4 := Bc hb6 hl5 l4
      replace u1 := Bc hb6 hu5 u1
      replace u2 := Bc hb6 hu5 u2
      replace u3 := Bc hb6 hu5 u3
      have hy6 := cell_lt y1
      have hl6 := cell_lt l1
      have hu6 := cell_lt u1
      have B6 := Lib.hid (Ba (Bt B5.out hb6) (.cells #[.int .i64 n1, .int .i64 n2, .int .i64 n3, .int .i64 n4] 23))
      clear hb6 B5 hy5 hl5 hu5 QL3
      go_wp2
      go_ret
      exact ⟨by simp, B6.out⟩
    · rw [decide_eq_false hc0] at QU
      rw [if_neg (by simp)] at QU
      clear QL2 HIU hup
      go_enter Tryd.func4, Tryd.ntmps4
      go_wp2_with fail
      refine (AL.out _ bA).mono ?_
      rintro e w1 ⟨rfl, hb1⟩
      have B1 := Lib.hid (Bt bA hb1)
      have y1 := Bc hb1 hsl HX.out.1
      have y2 := Bc hb1 hsl HX.out.2.1
      have y3 := Bc hb1 hsl HX.out.2.2
      have hy := cell_lt y1
      clear hb1 bA hsl HX AL
      go_wp2_with fail
      refine (QL.out _).mono ?_
      rintro e w2 ⟨rfl, hb2⟩
      have bB := Ba (Below.refl _ w2) (.cells #[.int .i64 m1, .int .i64 m2, .int .i64 m3, .int .i64 m4] 23)
      replace y1 := Bc bB (Bl hb2 hy) (Bc hb2 hy y1)
      replace y2 := Bc bB (Bl hb2 hy) (Bc hb2 hy y2)
      replace y3 := Bc bB (Bl hb2 hy) (Bc hb2 hy y3)
      have hy2 := cell_lt y1
      have B2 := Lib.hid (Bt (Bt B1.out hb2) bB)
      have HL := Lib.hid (cells4 (heap_alloc_new w2 (.cells #[.int .i64 m1, .int .i64 m2, .int .i64 m3, .int .i64 m4] 23)))
      have hl2 : w2.heap.size < (w2.alloc (.cells #[.int .i64 m1, .int .i64 m2, .int .i64 m3, .int .i64 m4] 23)).heap.size := by simp
      clear hb2 bB B1 QL hy
      go_wp2_with fail
      refine (QU.out _).mono ?_
      rintro e w3 ⟨rfl, hb3⟩
      have bC := Ba (Below.refl _ w3) (.cells #[.int .i64 0, .int .i64 0, .int .i64 0] 26)
      have HU := Lib.hid (cells3' (w := w3) (t := 26) (a1 := .int .i64 0) (a2 := .int .i64 0) (a3 := .int .i64 0))
      replace y1 := Bc bC (Bl hb3 hy2) (Bc hb3 hy2 y1)
      replace y2 := Bc bC (Bl hb3 hy2) (Bc hb3 hy2 y2)
      replace y3 := Bc bC (Bl hb3 hy2) (Bc hb3 hy2 y3)
      have hy3 := cell_lt y1
      have l1 := Bc bC (Bl hb3 hl2) (Bc hb3 hl2 HL.out.1)
      have l2 := Bc bC (Bl hb3 hl2) (Bc hb3 hl2 HL.out.2.1)
      have l3 := Bc bC (Bl hb3 hl2) (Bc hb3 hl2 HL.out.2.2.1)
      have l4 := Bc bC (Bl hb3 hl2) (Bc hb3 hl2 HL.out.2.2.2)
      have hl3 := cell_lt l1
      have hu3 : w3.heap.size < (w3.alloc (.cells #[.int .i64 0, .int .i64 0, .int .i64 0] 26)).heap.size := by simp
      have B3 := Lib.hid (Bt (Bt B2.out hb3) bC)
      have HLL := Lib.hid (And.intro y1 (And.intro y2 (And.intro y3 (And.intro l1 (And.intro l2 (And.intro l3 l4))))))
      clear hb3 bC B2 QU hy2 HL hl2 l1 l2 l3 l4
      go_wp2_with fail
      refine (RR.out _).mono ?_
      rintro e w4 ⟨rfl, hb4⟩
      have bR := Ba (Below.refl _ (w3.alloc (.cells #[.int .i64 0, .int .i64 0, .int .i64 0] 26))) (.cells #[.int .i64 (k : Int), .int .i64 c2, .int .i64 c3] 31)
      have bD := Bt bR hb4
      have HWC := Lib.hid (cells3' (w := w3.alloc (.cells #[.int .i64 0, .int .i64 0, .int .i64 0] 26)) (t := 31) (a1 := .int .i64 (k : Int)) (a2 := .int .i64 c2) (a3 := .int .i64 c3))
      have hwc : (w3.alloc (.cells #[.int .i64 0, .int .i64 0, .int .i64 0] 26)).heap.size < ((w3.alloc (.cells #[.int .i64 0, .int .i64 0, .int .i64 0] 26)).alloc (.cells #[.int .i64 (k : Int), .int .i64 c2, .int .i64 c3] 31)).heap.size := by simp
      clear y1 y2 y3
      have y1 := Bc bD hy3 HLL.out.1
      have y2 := Bc bD hy3 HLL.out.2.1
      have y3 := Bc bD hy3 HLL.out.2.2.1
      have l1 := Bc bD hl3 HLL.out.2.2.2.1
      have l2 := Bc bD hl3 HLL.out.2.2.2.2.1
      have l3 := Bc bD hl3 HLL.out.2.2.2.2.2.1
      have l4 := Bc bD hl3 HLL.out.2.2.2.2.2.2
      have u1 := Bc bD hu3 HU.out.1
      have u2 := Bc bD hu3 HU.out.2.1
      have u3 := Bc bD hu3 HU.out.2.2
      have x1 := Bc hb4 hwc HWC.out.1
      have x2 := Bc hb4 hwc HWC.out.2.1
      have x3 := Bc hb4 hwc HWC.out.2.2
      simp only [World.size_alloc] at x1 x2 x3
      have hy4 := cell_lt y1
      have hl4 := cell_lt l1
      have hu4 := cell_lt u1
      have hx4 := cell_lt x1
      have B4 := Lib.hid (Bt B3.out bD)
      clear hb4 bD bR B3 RR HLL HU HWC hwc hl3 hu3 hy3
      go_wp2_with fail
      have hdk1 : decide (0 < (k : Int)) = false := decide_eq_false (by omega)
      have hdk2 : decide (0 < k) = false := decide_eq_false (by omega)
      have hdk3 : decide ((k : Int) > 0) = false := decide_eq_false (by omega)
      refine wp_region_held_drew (S := (fun w' => Below (w4).heap.size (w4) w' ∧ ∀ b_1 o, b_1 < (w4).heap.size → w'.cell? ⟨b_1, o, none⟩ = (w4).cell? ⟨b_1, o, none⟩)) (by kernel_rfl) (keep0 _) (fun hHeld => ?_)
      (refine wpAnyH_take (i := 0) (v := ?_) rfl (by kernel_rfl) (by kernel_rfl) (by kernel_rfl) (fun _ _ _ h => h) (Or.inl ⟨by rfl, ?rt⟩) (by assumption) ?_; case rt => (intro w hSw; (try dsimp only at hSw); go_simp; (try with_reducible rfl))); (try simp only [Act.put, List.getElem_toArray, List.getElem_cons_succ, List.getElem_cons_zero, List.setIfInBounds_toArray, List.set_cons_zero, List.set_cons_succ])
      (refine wpAnyH_take (i := 1) (v := ?_) rfl (by kernel_rfl) (by kernel_rfl) (by kernel_rfl) (fun _ _ _ h => h) (Or.inl ⟨by rfl, ?rt⟩) (by assumption) ?_; case rt => (intro w hSw; (try dsimp only at hSw); go_simp; (try with_reducible rfl))); (try simp only [Act.put, List.getElem_toArray, List.getElem_cons_succ, List.getElem_cons_zero, List.setIfInBounds_toArray, List.set_cons_zero, List.set_cons_succ])
      (refine wpAnyH_take (i := 2) (v := ?_) rfl (by kernel_rfl) (by kernel_rfl) (by kernel_rfl) (fun _ _ _ h => h) (Or.inl ⟨by rfl, ?rt⟩) (by assumption) ?_; case rt => (intro w hSw; (try dsimp only at hSw); go_simp; (try with_reducible rfl))); (try simp only [Act.put, List.getElem_toArray, List.getElem_cons_succ, List.getElem_cons_zero, List.setIfInBounds_toArray, List.set_cons_zero, List.set_cons_succ])
      (refine wpAnyH_take (i := 3) (v := ?_) rfl (by kernel_rfl) (by kernel_rfl) (by kernel_rfl) (fun _ _ _ h => h) (Or.inl ⟨by rfl, ?rt⟩) (by assumption) ?_; case rt => (intro w hSw; (try dsimp only at hSw); go_simp; (try with_reducible rfl))); (try simp only [Act.put, List.getElem_toArray, List.getElem_cons_succ, List.getElem_cons_zero, List.setIfInBounds_toArray, List.set_cons_zero, List.set_cons_succ])
      (refine wpAnyH_take (i := 4) (v := ?_) rfl (by kernel_rfl) (by kernel_rfl) (by kernel_rfl) (fun _ _ _ h => h) (Or.inl ⟨by rfl, ?rt⟩) (by assumption) ?_; case rt => (intro w hSw; (try dsimp only at hSw); go_simp; (try with_reducible rfl))); (try simp only [Act.put, List.getElem_toArray, List.getElem_cons_succ, List.getElem_cons_zero, List.setIfInBounds_toArray, List.set_cons_zero, List.set_cons_succ])
      (refine wpAnyH_ready (rs := [5]) (by kernel_rfl) (by simp) ?_; refine AllReadyH.cons rfl (fun K hK => ?_) AllReadyH.nil; go_simp; refine (RL.out _).mono ?_; rintro e w1 ⟨rfl, hb1⟩; refine hK.out _ _ (keepB (by assumption) hb1) (fun hHeld => ?_); clear hK K); (try simp only [Act.put, List.getElem_toArray, List.getElem_cons_succ, List.getElem_cons_zero, List.setIfInBounds_toArray, List.set_cons_zero, List.set_cons_succ])
      (refine wpAnyH_take (i := 6) (v := ?_) rfl (by kernel_rfl) (by kernel_rfl) (by kernel_rfl) (fun _ _ _ h => h) (Or.inl ⟨by rfl, ?rt⟩) (by assumption) ?_; case rt => (intro w hSw; (try dsimp only at hSw); go_simp; (try with_reducible rfl))); (try simp only [Act.put, List.getElem_toArray, List.getElem_cons_succ, List.getElem_cons_zero, List.setIfInBounds_toArray, List.set_cons_zero, List.set_cons_succ])
      (refine wpAnyH_take (i := 7) (v := ?_) rfl (by kernel_rfl) (by kernel_rfl) (by kernel_rfl) (fun _ _ _ h => h) (Or.inl ⟨by rfl, ?rt⟩) (by assumption) ?_; case rt => (intro w hSw; (try dsimp only at hSw); go_simp; (try with_reducible rfl))); (try simp only [Act.put, List.getElem_toArray, List.getElem_cons_succ, List.getElem_cons_zero, List.setIfInBounds_toArray, List.set_cons_zero, List.set_cons_succ])
      (refine wpAnyH_take (i := 8) (v := ?_) rfl (by kernel_rfl) (by kernel_rfl) (by kernel_rfl) (fun _ _ _ h => h) (Or.inl ⟨by rfl, ?rt⟩) (by assumption) ?_; case rt => (intro w hSw; (try dsimp only at hSw); go_simp; (try with_reducible rfl))); (try simp only [Act.put, List.getElem_toArray, List.getElem_cons_succ, List.getElem_cons_zero, List.setIfInBounds_toArray, List.set_cons_zero, List.set_cons_succ])
      (refine wpAnyH_take (i := 9) (v := ?_) rfl (by kernel_rfl) (by kernel_rfl) (by kernel_rfl) (fun _ _ _ h => h) (Or.inl ⟨by rfl, ?rt⟩) (by assumption) ?_; case rt => (intro w hSw; (try dsimp only at hSw); go_simp; (try with_reducible rfl))); (try simp only [Act.put, List.getElem_toArray, List.getElem_cons_succ, List.getElem_cons_zero, List.setIfInBounds_toArray, List.set_cons_zero, List.set_cons_succ])
      (refine wpAnyH_take (i := 10) (v := ?_) rfl (by kernel_rfl) (by kernel_rfl) (by kernel_rfl) (fun _ _ _ h => h) (Or.inl ⟨by rfl, ?rt⟩) (by assumption) ?_; case rt => (intro w hSw; (try dsimp only at hSw); go_simp; (try with_reducible rfl))); (try simp only [Act.put, List.getElem_toArray, List.getElem_cons_succ, List.getElem_cons_zero, List.setIfInBounds_toArray, List.set_cons_zero, List.set_cons_succ])
      (refine wpAnyH_take (i := 11) (v := ?_) rfl (by kernel_rfl) (by kernel_rfl) (by kernel_rfl) (fun _ _ _ h => h) (Or.inl ⟨by rfl, ?rt⟩) (by assumption) ?_; case rt => (intro w hSw; (try dsimp only at hSw); go_simp; (try with_reducible rfl))); (try simp only [Act.put, List.getElem_toArray, List.getElem_cons_succ, List.getElem_cons_zero, List.setIfInBounds_toArray, List.set_cons_zero, List.set_cons_succ])
      (refine wpAnyH_take (i := 12) (v := ?_) rfl (by kernel_rfl) (by kernel_rfl) (by kernel_rfl) (fun _ _ _ h => h) (Or.inl ⟨by rfl, ?rt⟩) (by assumption) ?_; case rt => (intro w hSw; (try dsimp only at hSw); go_simp; (try with_reducible rfl))); (try simp only [Act.put, List.getElem_toArray, List.getElem_cons_succ, List.getElem_cons_zero, List.setIfInBounds_toArray, List.set_cons_zero, List.set_cons_succ])
      (try simp only [hdk1, hdk2, hdk3])
      (refine wpAnyH_take (i := 13) (v := ?_) rfl (by kernel_rfl) (by kernel_rfl) (by kernel_rfl) (fun _ _ _ h => h) (Or.inl ⟨by rfl, ?rt⟩) (by assumption) ?_; case rt => (intro w hSw; (try dsimp only at hSw); go_simp; (try with_reducible rfl))); (try simp only [Act.put, List.getElem_toArray, List.getElem_cons_succ, List.getElem_cons_zero, List.setIfInBounds_toArray, List.set_cons_zero, List.set_cons_succ])
      (refine wpAnyH_take (i := 14) (v := ?_) rfl (by kernel_rfl) (by kernel_rfl) (by kernel_rfl) (fun _ _ _ h => h) (Or.inl ⟨by rfl, ?rt⟩) (by assumption) ?_; case rt => (intro w hSw; (try dsimp only at hSw); go_simp; (try with_reducible rfl))); (try simp only [Act.put, List.getElem_toArray, List.getElem_cons_succ, List.getElem_cons_zero, List.setIfInBounds_toArray, List.set_cons_zero, List.set_cons_succ])
      refine wpAnyH_done (by kernel_rfl) ?_ _
      have bE := hHeld.1
      replace y1 := Bc bE hy4 y1
      replace y2 := Bc bE hy4 y2
      replace y3 := Bc bE hy4 y3
      replace l1 := Bc bE hl4 l1
      replace l2 := Bc bE hl4 l2
      replace l3 := Bc bE hl4 l3
      replace l4 := Bc bE hl4 l4
      replace u1 := Bc bE hu4 u1
      replace u2 := Bc bE hu4 u2
      replace u3 := Bc bE hu4 u3
      have hy5 := cell_lt y1
      have hl5 := cell_lt l1
      have hu5 := cell_lt u1
      have B5 := Lib.hid (Bt B4.out bE)
      clear hHeld bE B4 hy4 hl4 hu4 hx4 x1 x2 x3 RL nB gb
      go_wp2
      go_ret
      exact ⟨by simp, B5.out⟩
end Go.Proofs.YtlnncnbahmgpfaaDoor

/-
  Whatever cell it is given, QuadLoose answers true and leaves its arguments as they were. Conditions: the errors' variables that it names read as the program's text lays them (the card ties them to that text).
-/
namespace Go.Proofs.YtlnncnbahmgpfaaDoor
set_option linter.unusedSimpArgs false
set_option linter.unusedVariables false
open Go.ChangeShapes Go.WideShapes Go.ChangeAt Go.RowKit Go.Joins

set_option maxRecDepth 100000 in
theorem quadLoose_lifted (os : Os) (started : os.Started) (H : Type) (enc : TypeId × Value → H) :
    ReturnsInHanded {} Tryd.checked os 4 .any (fun w args => (Rows.quadLooseSpec.pre enc Tryd.prog Tryd.f4 [] false w args ∧ laidMetH Tryd.prog Rows.quadLooseRow.laid w) ∧ sizedMet enc Tryd.prog Tryd.f4 (OpenSpec.ofChange Rows.quadLooseSpec) false w args)
      (Rows.quadLooseSpec.post enc Tryd.prog Tryd.f4 false true false false) := by
  refine returnsInHanded_of_change_and (C := Tryd.checked) (X := fun w _ => laidMetH Tryd.prog Rows.quadLooseRow.laid w) (fun _ _ _ hh h => h.of_heap hh) own started (by kernel_rfl) Tryd.func4
    (ChangeSpec.witness_shaped (enc := enc) (C := Tryd.checked) (os := os) (X := fun w _ => laidMetH Tryd.prog Rows.quadLooseRow.laid w) false (World.doorLaid Tryd.prog 199 os) #[.agg #[.int .i64 0, .int .i64 0, .int .i64 0]] 8 rfl (World.shaped_of_RefB (by kernel_rfl) (by kernel_rfl)) (by kernel_rfl) (by kernel_rfl) (by kernel_rfl) (laidMetH_of_parts3 (fuel := 8) (laidMet_of_run' 8 (by kernel_rfl) (by kernel_rfl)) (by kernel_rfl) (by kernel_rfl))) ?_
  intro W base args ds gs before hval0 hW _ _ hL _
  have hval : ∀ (j : Nat) t v, Tryd.f4.params[j]? = some t → args[j]? = some v → Value.okWide Tryd.prog W .any base t v := hval0
  have hW' := hW
  obtain ⟨p, q, hA0, hV, rfl, hfz, hnd⟩ := hW
  have hA : DataW.TrodAll enc Tryd.prog W 0 (fun _ => true) true Tryd.f4.params.toList args.toList ds p := hA0
  rw [Tryd.params4] at hA hval
  obtain ⟨v0, vs0, d0, ds0, p0, q0, hargs, rfl, rfl, h0, r0⟩ := trodAll_cons hA
  obtain ⟨rfl, rfl, rfl⟩ := trodAll_nil r0
  obtain rfl : args = #[v0] := by cases args; simp_all
  obtain ⟨a0, b0, c0, rfl⟩ := open_cell (hval 0 26 v0 rfl rfl) h0
  clear hA0 hval0
  have hL' : laidMet Tryd.prog Rows.quadLooseRow.laid W := by
    have h := hL
    rw [MakeChecks.laidMetH_plain _ _ _ (by kernel_rfl)] at h
    exact h
  have hsh := shape_of (L := Rows.quadLooseRow.laid) (by kernel_rfl) (by
    intro x hx
    simp only [Rows.quadLooseRow] at hx
    repeat (rcases List.mem_cons.1 hx with rfl | hx; · exact ⟨_, rfl⟩)
    exact absurd hx (by simp))
  obtain ⟨A, hE⟩ := errs_of hL' hsh (by simp [Rows.quadLooseRow]) (by simp only [Rows.quadLooseRow, errN]; decide)
  refine (quadLoose_walk a0 b0 c0 W hE).mono fun e W' ⟨he, hb⟩ => ?_
  subst he
  exact ⟨_, rfl, law_post laidOut (by kernel_rfl) rfl (by kernel_rfl) Tryd.underlying4 (fun ds hd => by match ds, hd with | [_], _ => rfl) hW' hb⟩

theorem quadLoose_row : Rows.QuadLooseSaid :=
  OpenClaim.holds_of_wide 4 Tryd.f4 rfl rfl rfl rfl rfl rfl rfl ⟨rfl, rfl, rfl, rfl, rfl⟩ rfl rfl rfl rfl rfl (by kernel_rfl) Tryd.func4 (by kernel_rfl)
    (of_decide_eq_true (by kernel_rfl)) (by unfold Func.isWrapper; first | (rw [if_pos (by decide +kernel)]; kernel_rfl) | (rw [if_neg (by decide +kernel)]; exact ⟨rfl, rfl⟩))
    (fun os started H enc _ => quadLoose_lifted os started H enc)

theorem quadLoose_holds : Rows.QuadLooseCardSaid :=
  Claim7.holds_tied_plain_at .later [] Rows.quadLooseCard.laidKinds true Rows.quadLooseCard.stood.harness true
    quadLoose_row (fun _ h => by cases h) (by kernel_rfl) (fun _ h => by cases h) quadLoose_row_tie rfl ⟨rfl, rfl⟩ (by kernel_rfl) rfl
    (fun f fn hf hfn => by
      obtain rfl : f = 4 := Option.some.inj ((show Tryd.prog.funcNamed "paddock/paddocklaw12.QuadLoose" = some 4 by kernel_rfl).symm.trans hf) |>.symm
      obtain rfl : fn = Tryd.f4 := (Option.some.inj (Tryd.func4.symm.trans hfn)).symm
      exact ⟨by kernel_rfl, fun j t ht => by
        rw [Tryd.params4] at ht
        have hm : t ∈ [26] := by
          have := Array.mem_of_getElem? ht
          simp at this ⊢
          first | omega | (rcases this with h | h | h <;> simp [h])
        have hall : ([26].all fun u => !Tryd.prog.wantsStandIn u) = true := by kernel_rfl
        exact (show Tryd.prog.wantsStandIn t = false by simpa using List.all_eq_true.1 hall t hm)⟩)
    (by kernel_rfl)
#print axioms quadLoose_holds
end Go.Proofs.YtlnncnbahmgpfaaDoor
